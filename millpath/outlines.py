"""Outlines, and the quarters within them [5]."""

from millpath.corners import inner_point, straight
from millpath.kinds import are_numbers, is_row


def is_outline(thing):
    """Whether a thing is an outline."""
    if not is_row(thing) or len(thing) < 3 or not all([are_numbers(part, 2) for part in thing]):
        return False
    # A corner that comes twice needs no look: edges there are no way, go back, or touch.
    edges = edges_of(thing)
    return goes_straight(edges) and not goes_back(edges) and not is_touching(edges)


def corners_of(outline):
    """An outline's corners as a list of its own."""
    return [tuple(corner) for corner in outline]


def edges_of(outline):
    """The pairs of corners that lead to one another, the last one to the first."""
    corners = corners_of(outline)
    return list(zip(corners, corners[1:] + corners[:1]))


def goes_straight(edges):
    """Whether each edge leads straight from corner to corner."""
    return all([straight(one, other) is not None for one, other in edges])


def goes_back(edges):
    """Whether some edge goes back on the one ahead."""
    ways = [straight(one, other)[0] for one, other in edges]
    return any([(way - ways[at - 1]) % 8 == 4 for at, way in enumerate(ways)])


def is_touching(edges):
    """Whether two edges that are no neighbours have a point in common."""
    last = len(edges) - 1
    for at, edge in enumerate(edges):
        # The last edge is the first one's neighbour.
        beyond = edges[at + 2:last] if at == 0 else edges[at + 2:]
        if any([has_common(edge, other) for other in beyond]):
            return True
    return False


def has_common(edge, other):
    """Whether two edges have a point in common."""
    return (
        is_overlapping(edge, other, 0)
        and is_overlapping(edge, other, 1)
        and lies_across(edge, other)
        and lies_across(other, edge)
    )


def is_overlapping(edge, other, axis):
    """Whether what two edges cover of x (axis 0) or of y (axis 1) has a number in common."""
    return (
        min(edge[0][axis], edge[1][axis]) <= max(other[0][axis], other[1][axis])
        and min(other[0][axis], other[1][axis]) <= max(edge[0][axis], edge[1][axis])
    )


def lies_across(edge, other):
    """Whether the corners of other lie on both sides of the line through edge, or on it."""
    return side_of(edge, other[0]) * side_of(edge, other[1]) <= 0


def side_of(edge, corner):
    """A number above nought for a corner to the left of an edge, below for one to the right, 0 on its line."""
    one = edge[0]
    other = edge[1]
    return (other[0] - one[0]) * (corner[1] - one[1]) - (other[1] - one[1]) * (corner[0] - one[0])


def turning_area(outline):
    """Twice the area within, below nought where the outline goes round to the right."""
    return sum([one[0] * other[1] - other[0] * one[1] for one, other in edges_of(outline)])


def twice_area(outline):
    """Twice the area within an outline."""
    return abs(turning_area(outline))


def goes_left(outline):
    """Whether what is within lies to the left of an outline's edges."""
    return turning_area(outline) > 0


def quarters_within(outline):
    """The region within an outline."""
    return shape(outline, [])


def shape(outline, islands):
    """The region within an outline and within none of the islands."""
    region = []
    for x in range(min([corner[0] for corner in outline]), max([corner[0] for corner in outline])):
        region.extend(quarters_between(lines_over(outline, x), x))
    return outside(region, islands)


def outside(region, outlines):
    """The region of the quarters of a region that lie within none of some outlines."""
    found = []
    lines_at = {}
    for quarter in sorted([tuple(quarter) for quarter in region]):
        x = quarter[0]
        if x not in lines_at:
            lines_at[x] = [lines_over(outline, x) for outline in outlines]
        if not any([is_between(lines, quarter) for lines in lines_at[x]]):
            found.append(quarter)
    return found


def lines_over(outline, x):
    """The pairs (y at x, rise to x + 1) of the edges that lead over the cells at x."""
    lines = []
    for edge in edges_of(outline):
        west = min(edge)
        east = max(edge)
        if west[0] <= x < east[0]:
            rise = (east[1] - west[1]) // (east[0] - west[0])
            lines.append((west[1] + rise * (x - west[0]), rise))
    return lines


def quarters_between(lines, x):
    """The rising list of the quarters of the cells at x that lie within lines."""
    low = min([y + min(rise, 0) for y, rise in lines])
    high = max([y + max(rise, 0) for y, rise in lines])
    found = []
    for y in range(low, high):
        found.extend([(x, y, side) for side in range(4) if is_between(lines, (x, y, side))])
    return found


def is_between(lines, quarter):
    """Whether a quarter lies within: above an odd number of the lines that lead over its cell's x."""
    point = inner_point(quarter)
    along = point[0] - 4 * quarter[0]
    return len([True for y, rise in lines if 4 * y + along * rise < point[1]]) % 2 == 1
