"""A plate kept place by place in sets, and times step by step, for the tests to hold the program against."""

import functools

from plainly import mark, quarters_inside, quarters_of
from plainpaths import may_follow, moved_quarters, plain_way

from millpath.errors import BadRow, Bites, Cuts, Meets, MillError, NoTool, NoWay, Round

BARE = {NoTool: "NoTool", NoWay: "NoWay", Round: "Round"}


@functools.lru_cache(maxsize=None)
def near_of(tool):
    return frozenset(quarters_of(mark(tool, (0, 0))))


def mark_at(tool, corner):
    """The set of the quarters of a tool's mark."""
    return moved_quarters(near_of(tuple(tool)), corner[0], corner[1])


def all_quarters(wide, high):
    return {(x, y, side) for x in range(wide) for y in range(high) for side in range(4)}


class PlainPlate:
    """Plays orders as the document tells; play tells the refusal as a tuple, or None."""

    def __init__(self, wide, high, deep, tools, clamps, stays):
        self.whole = all_quarters(wide, high)
        self.deep = deep
        self.tools = [tuple(tool) for tool in tools]
        self.held = set().union(*[quarters_inside([tuple(corner) for corner in clamp]) for clamp in clamps])
        self.must = [{tuple(quarter) for quarter in region} for region in stays]
        self.gone = [set() for _ in range(deep)]
        self.number, self.at = None, (0, 0)

    def play(self, order):
        if order[0] == "take":
            if order[1] not in range(len(self.tools)):
                return ("NoTool",)
            self.number = order[1]
            return None
        if self.number is None:
            return ("NoTool",)
        if order[0] == "over":
            return self.go(order[1], tuple(order[2:]))
        return self.cut([tuple(place) for place in order[1]])

    def go(self, how, corner):
        for spot in plain_way(self.at, corner):
            if how == "low" and mark_at(self.tools[self.number], spot) & self.held:
                return ("Meets", spot)
        self.at = corner
        return None

    def cut(self, places):
        if places[0][:2] != self.at or any(place[2] < 0 or place[2] > self.deep for place in places):
            return ("NoWay",)
        if not all(may_follow(one, other) for one, other in zip(places, places[1:])):
            return ("NoWay",)
        tool, gone = self.tools[self.number], [set(layer) for layer in self.gone]
        for x, y, z in places:
            held = mark_at(tool, (x, y))
            if held & self.held:
                return ("Meets", (x, y))
            standing = [(held & self.whole) - layer for layer in gone]
            if any(standing[layer] for layer in range(self.deep) if layer < z - tool[3]):
                return ("Bites", (x, y))
            for layer in range(z):
                if standing[layer] & self.must[layer]:
                    return ("Cuts", layer, min(standing[layer] & self.must[layer]))
            for layer in range(z):
                gone[layer] |= held & self.whole
        self.gone, self.at = gone, places[-1][:2]
        return None

    def book(self):
        """All that a plate tells."""
        away = [sorted(layer) for layer in self.gone]
        stands = [sorted(self.whole - layer) for layer in self.gone]
        return (self.at, self.number, away, stands)


def refusal_of(error):
    """A refusal as a tuple of its name and its fields."""
    if type(error) in BARE:
        return (BARE[type(error)],)
    if isinstance(error, (Meets, Bites)):
        return (type(error).__name__, error.spot)
    if isinstance(error, Cuts):
        return ("Cuts", error.layer, error.quarter)
    return ("BadRow", error.row) if isinstance(error, BadRow) else ("MillError",)


def outcome(call, *handed):
    """What a call tells, or its refusal as a tuple."""
    try:
        return call(*handed)
    except MillError as error:
        return refusal_of(error)


def book_of(plate, deep):
    """All that a plate tells."""
    layers = range(deep)
    return (plate.corner(), plate.tool(), [plate.away(at) for at in layers], [plate.stands(at) for at in layers])


def plain_time(program, tools, change):
    """A program's time, each step by itself."""
    time, tool, corner = 0, None, (0, 0)
    for order in program:
        if order[0] == "take":
            time, tool = time + change, tools[order[1]]
        elif order[0] == "over":
            way = plain_way(corner, tuple(order[2:]))
            time += sum(step_length(one, other) for one, other in zip(way, way[1:]))
            time += 4 if order[1] == "low" else 20
            corner = way[-1]
        else:
            places = [tuple(place) for place in order[1]]
            time += 10 * tool[2] * places[0][2]
            for one, other in zip(places, places[1:]):
                time += tool[2] * (10 if one[:2] == other[:2] else step_length(one, other))
            corner = places[-1][:2]
    return time


def step_length(one, other):
    return 7 if one[0] != other[0] and one[1] != other[1] else 5


def random_cut(source, corner, deep, many):
    """Places from a corner on, as a cut may have them."""
    x, y, z = corner[0], corner[1], source.choice([0, 0, 1, source.randint(0, deep)])
    places = [(x, y, z)]
    for _ in range(many):
        if source.random() < 0.2 and z < deep:
            z += 1
        else:
            while True:
                dx, dy = source.randint(-1, 1), source.randint(-1, 1)
                if dx or dy:
                    break
            x, y = x + dx, y + dy
            z = source.choice([z, z, min(z + 1, deep), source.randint(0, z)])
        places.append((x, y, z))
    return places
