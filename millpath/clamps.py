"""Whether a tool's marks meet a clamp [13]."""

from millpath.corners import STEPS, straight
from millpath.outlines import edges_of, is_between, lines_over
from millpath.tools import swept


def meets_some(tool, one, other, clamps):
    """Whether a tool's marks between two corners that are one or stand straight meet some clamp."""
    return any([meets(tool, one, other, clamp) for clamp in clamps])


def meets(tool, one, other, clamp):
    """Whether a tool's marks between two corners that are one or stand straight meet a clamp."""
    octo = swept(tool, one, other)
    if any([enters(edge, octo) for edge in edges_of(clamp)]):
        return True
    # No edge parts the octo, so it lies all within the clamp or all beyond it, and a quarter of it tells which.
    return is_between(lines_over(clamp, one[0]), (one[0], one[1], 0))


def enters(edge, octo):
    """Whether an edge has a point in an octo that is on none of its bounds."""
    lead = straight(edge[0], edge[1])
    x = edge[0][0]
    y = edge[0][1]
    dx = STEPS[lead[0]][0]
    dy = STEPS[lead[0]][1]
    # Steps along the edge are told twice: x + y and x - y may change by 2 at a step, so bounds come at halves.
    begin = 0
    end = 2 * lead[1]
    for at, start, change in ((0, x, dx), (2, y, dy), (4, x + y, dx + dy), (6, x - y, dx - dy)):
        low = octo[at] - start
        high = octo[at + 1] - start
        if change == 0:
            if not low < 0 < high:
                return False
        else:
            begin = max(begin, min(2 * low // change, 2 * high // change))
            end = min(end, max(2 * low // change, 2 * high // change))
    return begin < end
