"""Where tools stand and how they go, told the slow way, for the tests to hold the program against."""

from plainly import STEPS, mark, quarters_inside, quarters_of, shifted

TOOLS = [(2, 1, 1, 1, 1), (3, 1, 4, 2, 3), (3, 2, 1, 3, 2), (4, 3, 2, 3, 2), (5, 1, 2, 1, 9), (6, 5, 9, 9, 4)]
BOX_30 = [(0, 0), (30, 0), (30, 30), (0, 30)]
ISLANDS = [[(6, 6), (10, 6), (10, 10), (6, 10)], [(18, 15), (23, 20), (18, 25), (13, 20)], [(25, 3), (27, 3), (27, 5)]]
TWO_ROOMS = [(0, 0), (10, 0), (10, 3), (16, 3), (16, 0), (26, 0), (26, 10), (16, 10), (16, 7), (10, 7), (10, 10), (0, 10)]
ASLANT = [(10, 0), (20, 10), (10, 20), (0, 10)]


def region_of(outline, islands=()):
    """The rising list of the quarters within an outline and within none of the islands."""
    gone = set().union(*[quarters_inside(island) for island in islands])
    return sorted(quarters_inside(outline) - gone)


def moved_quarters(quarters, x, y):
    return {(p + x, q + y, side) for p, q, side in quarters}


def marks_laid(tool, corners):
    """The set of the quarters of a tool's marks at some corners."""
    near = quarters_of(mark(tool, (0, 0)))
    return set().union(*[moved_quarters(near, x, y) for x, y in corners])


def plain_centres(region, tool):
    """The corners in and about a region at which a mark lies in it, each looked at by itself."""
    if not region:
        return []
    there, near = set(map(tuple, region)), quarters_of(mark(tool, (0, 0)))
    xs, ys = [quarter[0] for quarter in there], [quarter[1] for quarter in there]
    return [
        (x, y)
        for x in range(min(xs) - 1, max(xs) + 3)
        for y in range(min(ys) - 1, max(ys) + 3)
        if all((x + p, y + q, side) in there for p, q, side in near)
    ]


def plain_reached(region, tool):
    return marks_laid(tool, plain_centres(region, tool))


def plain_depths(points):
    """The depths, square by square about each point."""
    there, told = set(points), []
    for x, y in sorted(there):
        depth = 0
        while all((p, q) in there
                  for p in range(x - depth - 1, x + depth + 2) for q in range(y - depth - 1, y + depth + 2)):
            depth += 1
        told.append(((x, y), depth))
    return told


def step_between(one, other):
    """The direction from a corner to one a step away; None where it isn't."""
    step = (other[0] - one[0], other[1] - one[1])
    return STEPS.index(step) if step in STEPS else None


def plain_runs(points):
    """The runs, each next point being the waiting neighbour of the best rank."""
    ranks = [0, 1, 3, 5, 7, 6, 4, 2]
    waiting, told = set(points), []
    while waiting:
        run, ahead = [min(waiting)], None
        waiting.remove(run[0])
        while True:
            found = {}
            for x, y in waiting:
                direction = step_between(run[-1], (x, y))
                if direction is not None:
                    rank = direction if ahead is None else ranks[(direction - ahead) % 8]
                    found[rank] = ((x, y), direction)
            if not found:
                break
            corner, ahead = found[min(found)]
            run.append(corner)
            waiting.remove(corner)
        if len(run) >= 3 and step_between(run[-1], run[0]) is not None:
            run.append(run[0])
        told.append(run)
    return told


def plain_way(one, other):
    """The corners of a way over: all steps aslant, then all straight ones."""
    dx, dy = other[0] - one[0], other[1] - one[1]
    x_step, y_step = (dx > 0) - (dx < 0), (dy > 0) - (dy < 0)
    many = min(abs(dx), abs(dy))
    turn = (one[0] + many * x_step, one[1] + many * y_step)
    way = [(one[0] + at * x_step, one[1] + at * y_step) for at in range(many + 1)]
    if abs(dx) > many:
        way += [(turn[0] + at * x_step, turn[1]) for at in range(1, abs(dx) - many + 1)]
    if abs(dy) > many:
        way += [(turn[0], turn[1] + at * y_step) for at in range(1, abs(dy) - many + 1)]
    return way


def plain_over(tool, one, other, clamps):
    """How to go over, each mark held against each clamp quarter by quarter."""
    held = set().union(*[quarters_inside(clamp) for clamp in clamps])
    return "high" if marks_laid(tool, plain_way(one, other)) & held else "low"


def random_region(source, field):
    """A region of some boxes and marks, now and then with quarters taken out of it."""
    found = set()
    for _ in range(source.randint(1, 4)):
        x, y = source.randint(0, field - 6), source.randint(0, field - 6)
        if source.random() < 0.5:
            found |= quarters_of(mark(source.choice(TOOLS), (x + 3, y + 3)))
        else:
            wide, high = source.randint(3, 9), source.randint(3, 9)
            found |= quarters_inside(shifted([(0, 0), (wide, 0), (wide, high), (0, high)], x, y))
    for _ in range(source.choice([0, 0, 1, 2, 5])):
        found.discard(source.choice(sorted(found)))
    return sorted(found)


def random_points(source, wide, high, share):
    """Corners of a field, below nought too, each there with a chance."""
    x, y = source.randint(-40, 40), source.randint(-40, 40)
    return [(x + p, y + q) for p in range(wide) for q in range(high) if source.random() < share]


def shuffled(source, things):
    return source.sample(list(things), len(things))


def lists_in(thing):
    """All lists in an answer, the answer itself too."""
    found = [thing] if isinstance(thing, list) else []
    if isinstance(thing, (list, tuple)):
        for part in thing:
            found += lists_in(part)
    return found


def plain_way_in(run, top, deep, slope):
    """The places of a way in, walked step by step."""
    run = [tuple(corner) for corner in run]
    if len(run) == 1:
        return [run[0] + (z,) for z in range(top, deep + 1)]
    told, at, forth, step = [run[0] + (top,)], 0, True, 0
    while told[-1][2] < deep:
        if at in (0, len(run) - 1):
            forth = at == 0
        at += 1 if forth else -1
        step += 1
        told.append(run[at] + (top + step // slope,))
    while at > 0:
        at -= 1
        told.append(run[at] + (deep,))
    return told


def lie(direction, grain):
    turn = min((direction - grain) % 8, (grain - direction) % 8)
    return "with" if turn <= 1 else "across" if turn == 2 else "against"


def plain_pieces(run, grain):
    """The pieces of a run, each as long as it may be."""
    told, begin = [], 0
    while True:
        end, lies = begin, set()
        while end < len(run) - 1:
            more = lies | {lie(step_between(run[end], run[end + 1]), grain)}
            if {"with", "against"} <= more:
                break
            end, lies = end + 1, more
        piece = run[begin:end + 1]
        told.append(piece[::-1] if "against" in lies else piece)
        if end == len(run) - 1:
            return told
        begin = end


class PlainMaker:
    """Orders as the document tells them, from plain answers alone."""

    def __init__(self, tools, clamps):
        self.tools, self.clamps = tools, clamps
        self.held = set().union(*[quarters_inside(clamp) for clamp in clamps])
        self.orders, self.taken, self.corner = [], None, (0, 0)

    def free(self, region):
        return sorted(set(map(tuple, region)) - self.held)

    def cuts(self, ways, deep, n):
        tool = self.tools[n]
        depths = [0] + [min(deep, tool[3] * at) for at in range(1, deep + 1) if tool[3] * (at - 1) < deep]
        for top, z in zip(depths, depths[1:]):
            for way in ways:
                if self.taken != n:
                    self.orders.append(("take", n))
                    self.taken = n
                how = plain_over(tool, self.corner, way[0], self.clamps)
                self.orders.append(("over", how) + way[0])
                places = plain_way_in(way, top, z, tool[4]) + [corner + (z,) for corner in way[1:]]
                self.orders.append(("cut", tuple(places)))
                self.corner = way[-1]

    def clear(self, region, deep, n, width, first, grain):
        depths = plain_depths(plain_centres(self.free(region), self.tools[n]))
        ways, deepest = [], max([depth for corner, depth in depths], default=-1)
        for at in range(first, deepest + 1, width):
            ways += plain_runs([corner for corner, depth in depths if depth == at])
        if first > 0:
            for run in plain_runs([corner for corner, depth in depths if depth == 0]):
                ways += plain_pieces(run, grain)
        self.cuts(ways, deep, n)

    def rest(self, region, gone, deep, n, grain):
        wanted, ways = set(map(tuple, region)) - set(map(tuple, gone)), []
        points = [corner for corner in plain_centres(self.free(region), self.tools[n])
                  if marks_laid(self.tools[n], [corner]) & wanted]
        for run in plain_runs(points):
            ways += plain_pieces(run, grain)
        self.cuts(ways, deep, n)


def plain_cleared(region, deep, tools, clamps, plan):
    numbers, width, first, grain = plan
    maker = PlainMaker(tools, clamps)
    maker.clear(region, deep, numbers[0], width, first, grain)
    gone = plain_reached(maker.free(region), tools[numbers[0]])
    for n in numbers[1:]:
        maker.rest(region, sorted(gone), deep, n, grain)
        gone |= plain_reached(maker.free(region), tools[n])
    return maker.orders, sorted(set(region) - gone)


class Refused(Exception):
    """A program did what no program may."""


def refuse_if(wrong, words):
    if wrong:
        raise Refused(words)


def played(program, tools, clamps, pocket, deep):
    """What is away in each layer behind a program; Refused where it cuts what stays, meets a clamp or bites."""
    held, may = set().union(*[quarters_inside(clamp) for clamp in clamps]), set(pocket)
    away, tool, corner = [set() for _ in range(deep)], None, (0, 0)
    for order in program:
        if order[0] == "take":
            tool = tools[order[1]]
            near = quarters_of(mark(tool, (0, 0)))
        elif order[0] == "over":
            way = plain_way(corner, order[2:])
            refuse_if(order[1] == "low" and marks_laid(tool, way) & held, order)
            corner = order[2:]
        else:
            places = order[1]
            refuse_if(places[0][:2] != corner, "the first place is elsewhere")
            for one, other in zip(places, places[1:]):
                refuse_if(not may_follow(one, other), (one, other))
            for x, y, z in places:
                refuse_if(not 0 <= z <= deep, z)
                there = moved_quarters(near, x, y)
                refuse_if(there & held, "a clamp is met")
                refuse_if(any(not there <= away[layer] for layer in range(z - tool[3])), "bites")
                refuse_if(z > 0 and not there <= may, "what stays is cut")
                for layer in range(z):
                    away[layer] |= there
            corner = places[-1][:2]
    return away


def may_follow(one, other):
    """Whether a place may come behind another one in a cut."""
    if one[:2] == other[:2]:
        return other[2] == one[2] + 1
    return step_between(one[:2], other[:2]) is not None and 0 <= other[2] <= one[2] + 1
