"""The quarters of a tool's marks, wherever the tool stands [6]."""

from millpath.octos import quarters_in
from millpath.tools import mark_of


def near_quarters(tool):
    """The quarters of a tool's mark at corner (0, 0); about every other corner they lie alike."""
    return quarters_in(mark_of(tool, (0, 0)))


def laid(near, corner):
    """The near quarters, laid about a corner."""
    x = corner[0]
    y = corner[1]
    return [(x + along, y + up, side) for along, up, side in near]


def fits(near, corner, there):
    """Whether all near quarters, laid about a corner, are in a dict of quarters."""
    x = corner[0]
    y = corner[1]
    for along, up, side in near:
        if (x + along, y + up, side) not in there:
            return False
    return True


def marked(tool, corners):
    """A dict of the quarters of a tool's marks at some corners."""
    near = near_quarters(tool)
    there = {}
    for corner in corners:
        for quarter in laid(near, corner):
            there[quarter] = True
    return there


def noted(region):
    """A dict of a region's quarters, as tuples."""
    there = {}
    for quarter in region:
        there[tuple(quarter)] = True
    return there
