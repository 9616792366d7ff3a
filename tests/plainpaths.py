"""Where tools stand and how they go, told the slow way, for the tests to hold the program against."""

from plainly import STEPS, mark, quarters_inside, quarters_of, shifted

TOOLS = [(2, 1, 1, 1, 1), (3, 1, 4, 2, 3), (3, 2, 1, 3, 2), (4, 3, 2, 3, 2), (5, 1, 2, 1, 9), (6, 5, 9, 9, 4)]
BOX_30 = [(0, 0), (30, 0), (30, 30), (0, 30)]
ISLANDS = [[(6, 6), (10, 6), (10, 10), (6, 10)], [(18, 15), (23, 20), (18, 25), (13, 20)], [(25, 3), (27, 3), (27, 5)]]
TWO_ROOMS = [(0, 0), (10, 0), (10, 3), (16, 3), (16, 0), (26, 0), (26, 10), (16, 10), (16, 7), (10, 7), (10, 10), (0, 10)]
ASLANT = [(10, 0), (20, 10), (10, 20), (0, 10)]


def region_of(outline, islands=()):
    """The rising list of the quarters within an outline and within none of the islands."""
    gone = set().union(*[quarters_inside(island) for island in islands])
    return sorted(quarters_inside(outline) - gone)


def moved_quarters(quarters, x, y):
    return {(p + x, q + y, side) for p, q, side in quarters}


def marks_laid(tool, corners):
    """The set of the quarters of a tool's marks at some corners."""
    near = quarters_of(mark(tool, (0, 0)))
    return set().union(*[moved_quarters(near, x, y) for x, y in corners])


def plain_centres(region, tool):
    """The corners in and about a region at which a mark lies in it, each looked at by itself."""
    if not region:
        return []
    there, near = set(map(tuple, region)), quarters_of(mark(tool, (0, 0)))
    xs, ys = [quarter[0] for quarter in there], [quarter[1] for quarter in there]
    return [
        (x, y)
        for x in range(min(xs) - 1, max(xs) + 3)
        for y in range(min(ys) - 1, max(ys) + 3)
        if all((x + p, y + q, side) in there for p, q, side in near)
    ]


def plain_reached(region, tool):
    return marks_laid(tool, plain_centres(region, tool))


def plain_depths(points):
    """The depths, square by square about each point."""
    there, told = set(points), []
    for x, y in sorted(there):
        depth = 0
        while all((p, q) in there
                  for p in range(x - depth - 1, x + depth + 2) for q in range(y - depth - 1, y + depth + 2)):
            depth += 1
        told.append(((x, y), depth))
    return told


def step_between(one, other):
    """The direction from a corner to one a step away; None where it isn't."""
    step = (other[0] - one[0], other[1] - one[1])
    return STEPS.index(step) if step in STEPS else None


def plain_runs(points):
    """The runs, each next point being the waiting neighbour of the best rank."""
    ranks = [0, 1, 3, 5, 7, 6, 4, 2]
    waiting, told = set(points), []
    while waiting:
        run, ahead = [min(waiting)], None
        waiting.remove(run[0])
        while True:
            found = {}
            for x, y in waiting:
                direction = step_between(run[-1], (x, y))
                if direction is not None:
                    rank = direction if ahead is None else ranks[(direction - ahead) % 8]
                    found[rank] = ((x, y), direction)
            if not found:
                break
            corner, ahead = found[min(found)]
            run.append(corner)
            waiting.remove(corner)
        if len(run) >= 3 and step_between(run[-1], run[0]) is not None:
            run.append(run[0])
        told.append(run)
    return told


def plain_way(one, other):
    """The corners of a way over: all steps aslant, then all straight ones."""
    dx, dy = other[0] - one[0], other[1] - one[1]
    x_step, y_step = (dx > 0) - (dx < 0), (dy > 0) - (dy < 0)
    many = min(abs(dx), abs(dy))
    turn = (one[0] + many * x_step, one[1] + many * y_step)
    way = [(one[0] + at * x_step, one[1] + at * y_step) for at in range(many + 1)]
    if abs(dx) > many:
        way += [(turn[0] + at * x_step, turn[1]) for at in range(1, abs(dx) - many + 1)]
    if abs(dy) > many:
        way += [(turn[0], turn[1] + at * y_step) for at in range(1, abs(dy) - many + 1)]
    return way


def plain_over(tool, one, other, clamps):
    """How to go over, each mark held against each clamp quarter by quarter."""
    held = set().union(*[quarters_inside(clamp) for clamp in clamps])
    return "high" if marks_laid(tool, plain_way(one, other)) & held else "low"


def random_region(source, field):
    """A region of some boxes and marks, now and then with quarters taken out of it."""
    found = set()
    for _ in range(source.randint(1, 4)):
        x, y = source.randint(0, field - 6), source.randint(0, field - 6)
        if source.random() < 0.5:
            found |= quarters_of(mark(source.choice(TOOLS), (x + 3, y + 3)))
        else:
            wide, high = source.randint(3, 9), source.randint(3, 9)
            found |= quarters_inside(shifted([(0, 0), (wide, 0), (wide, high), (0, high)], x, y))
    for _ in range(source.choice([0, 0, 1, 2, 5])):
        found.discard(source.choice(sorted(found)))
    return sorted(found)


def random_points(source, wide, high, share):
    """Corners of a field, below nought too, each there with a chance."""
    x, y = source.randint(-40, 40), source.randint(-40, 40)
    return [(x + p, y + q) for p in range(wide) for q in range(high) if source.random() < share]


def shuffled(source, things):
    return source.sample(list(things), len(things))


def lists_in(thing):
    """All lists in an answer, the answer itself too."""
    found = [thing] if isinstance(thing, list) else []
    if isinstance(thing, (list, tuple)):
        for part in thing:
            found += lists_in(part)
    return found
