"""Tools, and the octos that they cut at a corner and along straight ways [6]."""

from millpath.kinds import are_numbers


def is_tool(thing):
    """Whether a thing is a tool (r, k, pace, bite, slope)."""
    if not are_numbers(thing, 5):
        return False
    return 1 <= thing[1] < thing[0] <= 6 and all([1 <= part <= 9 for part in thing[2:]])


def mark_of(tool, corner):
    """The octo that a tool cuts at a corner."""
    r = tool[0]
    both = tool[0] + tool[1]
    x = corner[0]
    y = corner[1]
    return (x - r, x + r, y - r, y + r, x + y - both, x + y + both, x - y - both, x - y + both)


def swept(tool, one, other):
    """The octo of the marks between two corners that are one or stand straight."""
    first = mark_of(tool, one)
    last = mark_of(tool, other)
    bounds = []
    for at in range(0, 8, 2):
        bounds.append(min(first[at], last[at]))
        bounds.append(max(first[at + 1], last[at + 1]))
    return tuple(bounds)


def half_of(tool):
    """A width for which rings are sure to leave nothing."""
    return (tool[0] + tool[1]) // 2
