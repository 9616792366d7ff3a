"""Ways over, from corner to corner, high or low [13]."""

from millpath.clamps import meets_some


def over_way(one, other):
    """The list of corners from one to other: steps aslant as long as x and y are to change, then straight ones."""
    corner = tuple(one)
    way = [corner]
    while corner != tuple(other):
        corner = (corner[0] + sign(other[0] - corner[0]), corner[1] + sign(other[1] - corner[1]))
        way.append(corner)
    return way


def sign(number):
    """1 of a number above nought, -1 of one below, 0 of nought."""
    if number == 0:
        return 0
    return 1 if number > 0 else -1


def over(tool, one, other, clamps):
    """How to go over: "low" where the marks at all corners of the way meet no clamp, else "high"."""
    turn = turn_of(one, other)
    # The marks at all corners of a straight way are what is swept along it.
    if meets_some(tool, one, turn, clamps) or meets_some(tool, turn, other, clamps):
        return "high"
    return "low"


def turn_of(one, other):
    """The corner at which the steps aslant of a way over end."""
    wide = other[0] - one[0]
    high = other[1] - one[1]
    aslant = min(abs(wide), abs(high))
    return (one[0] + sign(wide) * aslant, one[1] + sign(high) * aslant)
