"""What a program cuts in a layer, by areas alone [19]."""

from millpath.corners import straight
from millpath.tools import swept
from millpath.unions import area_of


def cut_octos(program, tools, layer):
    """A list of unlike octos whose quarters are just those that a program cuts in a layer."""
    octos = {}
    tool = None
    for order in program:
        if order[0] == "take":
            tool = tools[order[1]]
        elif order[0] == "cut":
            for one, other in ways_at(order[1], layer):
                octos[swept(tool, one, other)] = True
    return list(octos)


def cut_area(program, tools, layer):
    """How many quarters a program cuts in a layer, each counted once."""
    return area_of(cut_octos(program, tools, layer))


def ways_at(places, layer):
    """The straight ways, as pairs of their first and last corners, that the places deeper than a layer make."""
    ways = []
    is_in = False
    for x, y, z in places:
        if z <= layer:
            is_in = False
        elif is_in and goes_on(ways[-1], (x, y)):
            ways[-1] = (ways[-1][0], (x, y))
        else:
            ways.append(((x, y), (x, y)))
            is_in = True
    return ways


def goes_on(way, corner):
    """Whether a corner is the last one of a way, or lets the way go on straight by a step."""
    if corner == way[1]:
        return True
    ahead = straight(way[0], way[1])
    whole = straight(way[0], corner)
    if whole is None:
        return False
    return whole[1] == 1 if ahead is None else whole == (ahead[0], ahead[1] + 1)
