"""Tools, and the octos that they cut at a corner and along straight ways [6]."""

from millpath.kinds import are_numbers
from millpath.octos import added, moved, octo_of


def is_tool(thing):
    """Whether a thing is a tool (r, k, pace, bite, slope)."""
    if not are_numbers(thing, 5):
        return False
    return 1 <= thing[1] < thing[0] <= 6 and all([1 <= part <= 9 for part in thing[2:]])


def mark_of(tool, corner):
    """The octo that a tool cuts at a corner."""
    r = tool[0]
    both = tool[0] + tool[1]
    return moved((-r, r, -r, r, -both, both, -both, both), corner)


def swept(tool, one, other):
    """The octo of the marks between two corners that are one or stand straight."""
    return added(mark_of(tool, (0, 0)), octo_of([one, other]))


def half_of(tool):
    """A width for which rings are sure to leave nothing."""
    return (tool[0] + tool[1]) // 2
