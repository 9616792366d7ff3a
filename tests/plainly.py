"""What the document says, told the slow way, for the tests to hold the program against."""

STEPS = [(1, 0), (1, 1), (0, 1), (-1, 1), (-1, 0), (-1, -1), (0, -1), (1, -1)]
SIDES = [((2, 0), (2, 2)), ((0, 2), (2, 2)), ((0, 0), (0, 2)), ((0, 0), (2, 0))]


def triangle(quarter):
    """The three points of a quarter, doubled so that its middle is whole."""
    x, y, side = quarter
    ends = [(2 * x + dx, 2 * y + dy) for dx, dy in SIDES[side]]
    return [(2 * x + 1, 2 * y + 1)] + ends


def has_point(octo, point):
    """Whether a doubled point is in an octo."""
    w, e, s, n, a, b, c, d = [2 * bound for bound in octo]
    x, y = point
    return w <= x <= e and s <= y <= n and a <= x + y <= b and c <= x - y <= d


def points_in(octo):
    """The doubled points of an octo at whole and half numbers."""
    return {
        (x, y)
        for x in range(2 * octo[0], 2 * octo[1] + 1)
        for y in range(2 * octo[2], 2 * octo[3] + 1)
        if has_point(octo, (x, y))
    }


def quarters_of(octo):
    """The set of quarters that lie in an octo, each looked at by itself."""
    return {
        (x, y, side)
        for x in range(octo[0], octo[1])
        for y in range(octo[2], octo[3])
        for side in range(4)
        if all(has_point(octo, point) for point in triangle((x, y, side)))
    }


def quarters_of_all(octos):
    """The set of quarters that lie in some of the octos."""
    return set().union(*[quarters_of(octo) for octo in octos])


def octo_around(corners):
    """The least octo that holds some corners."""
    bounds = []
    for values in (
        [x for x, y in corners],
        [y for x, y in corners],
        [x + y for x, y in corners],
        [x - y for x, y in corners],
    ):
        bounds += [min(values), max(values)]
    return tuple(bounds)


def octo_area(octo):
    """The quarters of one octo of any size: its box less the four corners that are cut off."""
    w, e, s, n, a, b, c, d = octo
    cut = [a - w - s, e + n - b, c - w + n, e - s - d]
    return 4 * (e - w) * (n - s) - 2 * sum(leg * leg for leg in cut)


def random_octo(source, least, most, spread):
    """An octo around one to four corners that lie no further than spread from one another."""
    x = source.randint(least, most - spread)
    y = source.randint(least, most - spread)
    many = source.randint(1, 4)
    return octo_around([(x + source.randint(0, spread), y + source.randint(0, spread)) for _ in range(many)])


def as_lists(thing):
    """The same thing with lists for all its tuples."""
    return [as_lists(part) for part in thing] if isinstance(thing, (list, tuple)) else thing


def as_tuples(thing):
    """The same thing with tuples for all its lists."""
    return tuple(as_tuples(part) for part in thing) if isinstance(thing, (list, tuple)) else thing


ODD_THINGS = [
    None, True, False, 0, 7, -1, 2.5, "", "tool", "12345", b"12345", (), [], {}, set(), object(), int, len,
    [None], (None,) * 5, [[]], [[[]]], {1: 2}, {1, 2, 3, 4, 5}, range(5), frozenset([1, 2]), 1j, float("nan"),
    [1.0, 2.0, 3.0, 4.0, 5.0], "ab" * 4, ["a"] * 8, [True] * 8, [False] * 5, [(0, 0)], iter([1, 2, 3]),
]
