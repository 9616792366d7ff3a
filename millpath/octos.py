"""Octos, and the quarters that lie in them [4]."""

from millpath.corners import inner_point
from millpath.kinds import are_numbers


def octo_of(corners):
    """The least octo that holds some corners, one at least."""
    bounds = []
    for numbers in (
        [corner[0] for corner in corners],
        [corner[1] for corner in corners],
        [corner[0] + corner[1] for corner in corners],
        [corner[0] - corner[1] for corner in corners],
    ):
        bounds.append(min(numbers))
        bounds.append(max(numbers))
    return tuple(bounds)


def is_octo(thing):
    """Whether a thing is an octo."""
    if not are_numbers(thing, 8):
        return False
    return all_met(thing[0], thing[1], thing[2], thing[3], thing[4], thing[5], thing[6], thing[7])


def all_met(w, e, s, n, a, b, c, d):
    """Whether each of the eight bounds is met by some point that keeps to the others."""
    # x + y and x - y may stand for x and y: their sum and difference are then 2 * x and 2 * y.
    return (
        ends_met(w, e, s, n, a, b, c, d)
        and ends_met(s, n, w, e, a, b, -d, -c)
        and ends_met(a, b, c, d, 2 * w, 2 * e, 2 * s, 2 * n)
        and ends_met(c, d, a, b, 2 * w, 2 * e, -2 * n, -2 * s)
    )


def ends_met(w, e, s, n, a, b, c, d):
    """Whether both bounds of x are met by points that keep to the others."""
    for x in (w, e):
        if max(s, a - x, x - d) > min(n, b - x, x - c):
            return False
    return w <= e


def added(one, other):
    """The octo of all sums of a point of one and a point of other."""
    return tuple([bound + more for bound, more in zip(one, other)])


def moved(octo, corner):
    """The octo of all points of an octo with a corner added."""
    return added(octo, octo_of([corner]))


def quarters_in(octo):
    """The region of the quarters that lie in an octo."""
    region = []
    # A flat octo may be long, though it has no quarters to look for.
    if is_flat(octo):
        return region
    for x in range(octo[0], octo[1]):
        low = max(octo[2], octo[4] - x - 1, x - octo[7])
        high = min(octo[3], octo[5] - x, x + 1 - octo[6])
        for y in range(low, high):
            region.extend([(x, y, side) for side in range(4) if holds(octo, (x, y, side))])
    return region


def is_flat(octo):
    """Whether an octo has no points within its bounds."""
    return octo[0] == octo[1] or octo[2] == octo[3] or octo[4] == octo[5] or octo[6] == octo[7]


def holds(octo, quarter):
    """Whether a quarter lies in an octo; its inner point tells, as no bound runs through a quarter."""
    point = inner_point(quarter)
    x = point[0]
    y = point[1]
    return (
        4 * octo[0] < x < 4 * octo[1]
        and 4 * octo[2] < y < 4 * octo[3]
        and 4 * octo[4] < x + y < 4 * octo[5]
        and 4 * octo[6] < x - y < 4 * octo[7]
    )
