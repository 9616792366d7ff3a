"""What the document says, told the slow way, for the tests to hold the program against."""

STEPS = [(1, 0), (1, 1), (0, 1), (-1, 1), (-1, 0), (-1, -1), (0, -1), (1, -1)]
SIDES = [((2, 0), (2, 2)), ((0, 2), (2, 2)), ((0, 0), (0, 2)), ((0, 0), (2, 0))]


def triangle(quarter):
    """The three points of a quarter, doubled so that its middle is whole."""
    x, y, side = quarter
    ends = [(2 * x + dx, 2 * y + dy) for dx, dy in SIDES[side]]
    return [(2 * x + 1, 2 * y + 1)] + ends


def has_point(octo, point):
    """Whether a doubled point is in an octo."""
    w, e, s, n, a, b, c, d = [2 * bound for bound in octo]
    x, y = point
    return w <= x <= e and s <= y <= n and a <= x + y <= b and c <= x - y <= d


def points_in(octo):
    """The doubled points of an octo at whole and half numbers."""
    w, e, s, n, a, b, c, d = [2 * bound for bound in octo]
    return {
        (x, y)
        for x in range(w, e + 1)
        for y in range(s, n + 1)
        if a <= x + y <= b and c <= x - y <= d
    }


def quarters_of(octo):
    """The set of quarters that lie in an octo, each looked at by itself."""
    points = points_in(octo)
    return {
        (x, y, side)
        for x in range(octo[0], octo[1])
        for y in range(octo[2], octo[3])
        for side in range(4)
        if points.issuperset(triangle((x, y, side)))
    }


def quarters_of_all(octos):
    """The set of quarters that lie in some of the octos."""
    return set().union(*[quarters_of(octo) for octo in octos])


def octo_around(corners):
    """The least octo that holds some corners."""
    bounds = []
    for values in (
        [x for x, y in corners],
        [y for x, y in corners],
        [x + y for x, y in corners],
        [x - y for x, y in corners],
    ):
        bounds += [min(values), max(values)]
    return tuple(bounds)


def octo_area(octo):
    """The quarters of one octo of any size: its box less the four corners that are cut off."""
    w, e, s, n, a, b, c, d = octo
    cut = [a - w - s, e + n - b, c - w + n, e - s - d]
    return 4 * (e - w) * (n - s) - 2 * sum(leg * leg for leg in cut)


def random_octo(source, least, most, spread):
    """An octo around one to four corners that lie no further than spread from one another."""
    x = source.randint(least, most - spread)
    y = source.randint(least, most - spread)
    many = source.randint(1, 4)
    return octo_around([(x + source.randint(0, spread), y + source.randint(0, spread)) for _ in range(many)])


def mark(tool, corner):
    """The octo of a tool's mark."""
    x, y = corner
    r, both = tool[0], tool[0] + tool[1]
    return (x - r, x + r, y - r, y + r, x + y - both, x + y + both, x - y - both, x - y + both)


def all_bounds_met(octo):
    """Whether eight numbers are an octo; where its bounds meet, numbers are whole or half."""
    points = points_in(octo)
    values = [
        {x for x, y in points}, {y for x, y in points}, {x + y for x, y in points}, {x - y for x, y in points}]
    return all(2 * octo[at] in values[at // 2] for at in range(8))


def edge_points(one, other):
    """The doubled points of an edge at whole and half numbers; None where it isn't straight."""
    dx, dy = other[0] - one[0], other[1] - one[1]
    many = max(abs(dx), abs(dy))
    if many == 0 or not {abs(dx), abs(dy)} <= {0, many}:
        return None
    return {(2 * one[0] + dx // many * half, 2 * one[1] + dy // many * half) for half in range(2 * many + 1)}


def makes_outline(corners):
    """Whether some corners are an outline: two edges can cross at whole and half numbers alone."""
    many = len(corners)
    if many < 3 or len(set(corners)) < many:
        return False
    edges = [edge_points(corners[at], corners[(at + 1) % many]) for at in range(many)]
    if None in edges:
        return False
    for one in range(many):
        for other in range(one):
            common = edges[one] & edges[other]
            allowed = set()
            if other == one - 1:
                allowed.add((2 * corners[one][0], 2 * corners[one][1]))
            if (one + 1) % many == other:
                allowed.add((2 * corners[other][0], 2 * corners[other][1]))
            if not common <= allowed:
                return False
    return True


def is_inside(outline, quarter):
    """Whether a quarter's heaviest point, six times, has an odd number of edges to its east."""
    x = sum(point[0] for point in triangle(quarter))
    y = sum(point[1] for point in triangle(quarter))
    odd = False
    for at in range(len(outline)):
        x1, y1 = [6 * number for number in outline[at - 1]]
        x2, y2 = [6 * number for number in outline[at]]
        if (y1 < y) != (y2 < y) and x1 + (y - y1) * (x2 - x1) // (y2 - y1) > x:
            odd = not odd
    return odd


def quarters_inside(outline):
    """The set of the quarters within an outline, each looked at by itself."""
    xs, ys = [x for x, y in outline], [y for x, y in outline]
    return {
        (x, y, side)
        for x in range(min(xs) - 1, max(xs) + 1)
        for y in range(min(ys) - 1, max(ys) + 1)
        for side in range(4)
        if is_inside(outline, (x, y, side))
    }


def views(outline):
    """An outline in eight views: turned by quarters of a round and mirrored, either way about."""
    told = []
    for way in range(4):
        outline = [(-y, x) for x, y in outline]
        told += [list(outline), [(-x, y) for x, y in outline]]
    return told + [list(reversed(view)) for view in told]


def begun_at(outline, at):
    """The outline begun at another corner."""
    return list(outline[at:]) + list(outline[:at])


def shifted(corners, x, y):
    return [(corner[0] + x, corner[1] + y) for corner in corners]


def random_outlines(source, many, field):
    """Outlines of 3 to 7 corners that chance found in a small field."""
    found = []
    while len(found) < many:
        corners = random_corners(source, field)
        if makes_outline(corners):
            found.append(corners)
    return found


def random_corners(source, field):
    """Corners of which each leads straight to the next, the last one often to the first."""
    corners = [(source.randint(0, field), source.randint(0, field))]
    for _ in range(source.randint(2, 6)):
        dx, dy = source.choice(STEPS)
        many = source.randint(1, field // 2)
        corners.append((corners[-1][0] + dx * many, corners[-1][1] + dy * many))
    return corners


TRIANGLE = [(0, 0), (1, 0), (0, 1)]
SQUARE_ON_CORNER = [(1, 0), (0, 1), (-1, 0), (0, -1)]
BOX = [(0, 0), (4, 0), (4, 3), (0, 3)]
CUT_BOX = [(1, 0), (5, 0), (6, 1), (6, 4), (4, 6), (2, 6), (0, 4), (0, 1)]
L_FORM = [(0, 0), (6, 0), (6, 2), (2, 2), (2, 5), (0, 5)]
U_FORM = [(0, 0), (7, 0), (7, 5), (5, 5), (5, 2), (2, 2), (2, 4), (0, 4)]
MORE_ON_EDGES = [(0, 0), (1, 0), (3, 0), (4, 0), (4, 2), (4, 4), (3, 3), (1, 1)]
NOTCHED = [(0, 0), (8, 0), (8, 6), (6, 6), (4, 4), (2, 6), (0, 6), (2, 4), (2, 2)]
STAIRS = [(at // 2, (at + 1) // 2) for at in range(23)] + [(11, 0)]
OUTLINES = [
    TRIANGLE, SQUARE_ON_CORNER, BOX, CUT_BOX, L_FORM, U_FORM, MORE_ON_EDGES, NOTCHED, STAIRS,
    [(0, 0), (2, 2), (0, 4)], [(0, 0), (6, 0), (3, 3)], [(0, 0), (3, 3), (3, 4), (0, 1)],
]


def as_lists(thing):
    """The same thing with lists for all its tuples."""
    return [as_lists(part) for part in thing] if isinstance(thing, (list, tuple)) else thing


def as_tuples(thing):
    """The same thing with tuples for all its lists."""
    return tuple(as_tuples(part) for part in thing) if isinstance(thing, (list, tuple)) else thing


ODD_THINGS = [
    None, True, False, 0, 7, -1, 2.5, "", "tool", "12345", b"12345", (), [], {}, set(), object(), int, len,
    [None], (None,) * 5, [[]], [[[]]], {1: 2}, {1, 2, 3, 4, 5}, range(5), frozenset([1, 2]), 1j, float("nan"),
    [1.0, 2.0, 3.0, 4.0, 5.0], "ab" * 4, ["a"] * 8, [True] * 8, [False] * 5, [(0, 0)], iter([1, 2, 3]),
]
