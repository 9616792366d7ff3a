"""A plate on which programs are played, place by place [17]."""

from millpath.boards import all_bits, bits_of, least_of, region_of
from millpath.clamps import meets_some
from millpath.errors import Bites, Cuts, Meets, NoTool, NoWay
from millpath.marks import laid, near_quarters
from millpath.outlines import corners_of
from millpath.ways import over, over_way


class Plate:
    """A plate of cells in layers, at first all standing, with tools of which none is taken yet."""

    def __init__(self, wide, high, deep, tools, clamps, stays):
        self.wide = wide
        self.high = high
        self.deep = deep
        self.tools = [tuple(tool) for tool in tools]
        self.clamps = [corners_of(clamp) for clamp in clamps]
        self.must = [bits_of(region, wide, high) for region in stays]
        self.gone = [0 for layer in range(deep)]
        self.nears = [near_quarters(tool) for tool in tools]
        self.marks = {}
        self.taken = None
        self.stand = (0, 0)

    def play(self, order):
        """Does an order, or refuses it and changes nothing."""
        if order[0] == "take":
            self.take(order[1])
        elif order[0] == "over":
            self.go(order[1], (order[2], order[3]))
        else:
            self.cut([tuple(place) for place in order[1]])

    def play_all(self, program):
        """Does the orders one by one, up to the first one that is refused."""
        for order in program:
            self.play(order)

    def corner(self):
        """The corner where the tool is."""
        return self.stand

    def tool(self):
        """The number of the tool that was taken last; None at first."""
        return self.taken

    def away(self, layer):
        """The region of the plate's quarters that are away in a layer."""
        return region_of(self.gone[layer], self.high)

    def stands(self, layer):
        """The region of the plate's quarters that stand in a layer."""
        return region_of(all_bits(self.wide, self.high) & ~self.gone[layer], self.high)

    def take(self, number):
        """Takes a tool."""
        if not 0 <= number < len(self.tools):
            raise NoTool(f"there is no tool {number}")
        self.taken = number

    def taken_tool(self):
        """The tool that was taken last."""
        if self.taken is None:
            raise NoTool("no tool is taken")
        return self.tools[self.taken]

    def go(self, how, corner):
        """Goes over to a corner, high or low."""
        tool = self.taken_tool()
        # The whole way is looked at first, as a look at each of its corners costs much more.
        if how == "low" and over(tool, self.stand, corner, self.clamps) == "high":
            raise Meets(first_met(tool, over_way(self.stand, corner), self.clamps))
        self.stand = corner

    def cut(self, places):
        """Cuts at places, one behind the other, all of them or none."""
        tool = self.taken_tool()
        if not is_way(self.stand, places, self.deep):
            raise NoWay("a place can't come where it stands")
        gone = list(self.gone)
        for x, y, z in places:
            bits = self.mark_bits((x, y))
            refuse_bite((x, y), bits, gone[:max(z - tool[3], 0)])
            self.refuse_cut(bits, gone[:z])
            for layer in range(z):
                gone[layer] |= bits
        self.gone = gone
        self.stand = places[-1][:2]

    def mark_bits(self, corner):
        """The bits of the taken tool's mark at a corner; refused where it meets a clamp."""
        key = (self.taken, corner)
        if key not in self.marks:
            if meets_some(self.tools[self.taken], corner, corner, self.clamps):
                raise Meets(corner)
            self.marks[key] = bits_of(laid(self.nears[self.taken], corner), self.wide, self.high)
        return self.marks[key]

    def refuse_cut(self, bits, gone):
        """Refuses to cut, in the layers told as what is gone of them, bits that must stay and stand."""
        for layer, bare in enumerate(gone):
            wrong = bits & self.must[layer] & ~bare
            if wrong:
                raise Cuts(layer, least_of(wrong, self.high))


def first_met(tool, way, clamps):
    """The first corner of a way at which a tool's mark meets a clamp."""
    return [corner for corner in way if meets_some(tool, corner, corner, clamps)][0]


def refuse_bite(corner, bits, gone):
    """Refuses a mark at a corner that has bits standing in layers told as what is gone of them."""
    if any([bits & ~bare for bare in gone]):
        raise Bites(corner)


def is_way(corner, places, deep):
    """Whether a cut that begins at a corner and goes no deeper than deep may have such places."""
    if places[0][:2] != corner or any([not 0 <= place[2] <= deep for place in places]):
        return False
    return all([may_follow(one, other) for one, other in zip(places, places[1:])])


def may_follow(one, other):
    """Whether a place may come behind one ahead of it in a cut."""
    far = max(abs(other[0] - one[0]), abs(other[1] - one[1]))
    if far == 0:
        return other[2] == one[2] + 1
    return far == 1 and other[2] <= one[2] + 1
