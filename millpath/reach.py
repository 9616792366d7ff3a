"""Where a tool may stand in a region, and what it reaches of it [7]."""

from millpath.marks import fits, marked, near_quarters, noted


def centres(region, tool):
    """The rising list of the corners at which all quarters of a tool's mark are in a region."""
    there = noted(region)
    near = near_quarters(tool)
    # Every mark holds the cell to the north-east of its corner, so no other corners need a look.
    corners = [(x, y) for x, y, side in sorted(there) if side == 0]
    return [corner for corner in corners if fits(near, corner, there)]


def reached(region, tool):
    """The region of all quarters of a tool's marks at its centres."""
    return sorted(reached_in(region, tool))


def reached_in(region, tool):
    """A dict of the quarters that a tool reaches of a region."""
    return marked(tool, centres(region, tool))


def left_by(region, tools):
    """The region of the quarters of a region that none of some tools reaches."""
    gone = {}
    for tool in tools:
        gone.update(reached_in(region, tool))
    return without(region, gone)


def without(region, gone):
    """The region of the quarters of a region that are not in a dict of quarters."""
    return [quarter for quarter in sorted(noted(region)) if quarter not in gone]
