"""Why no tool reaches a quarter, and papers that show it [7]."""

from millpath.kinds import are_numbers, is_number, is_row
from millpath.marks import near_quarters, noted


def why_left(region, tools, quarter):
    """Rows (number of the tool, corner, quarter) that show why no tool reaches a quarter; None where one does."""
    there = noted(region)
    rows = []
    for number, tool in enumerate(tools):
        near = near_quarters(tool)
        for corner in corners_about(near, quarter):
            missing = first_missing(near, corner, there)
            if missing is None:
                return None
            rows.append((number, corner, missing))
    return rows


def corners_about(near, quarter):
    """The rising list of the corners about which the near quarters, laid there, hold a quarter."""
    return sorted([(quarter[0] - x, quarter[1] - y) for x, y, side in near if side == quarter[2]])


def first_missing(near, corner, there):
    """The least of the near quarters, laid about a corner, that is not in a dict; None where all are."""
    # The near quarters rise, and laid about a corner they rise, too.
    for x, y, side in near:
        laid = (corner[0] + x, corner[1] + y, side)
        if laid not in there:
            return laid
    return None


def shows_left(region, tools, quarter, paper):
    """Whether a paper shows, by one row for each tool and corner, that no tool reaches a quarter."""
    if not is_row(paper) or not all([is_shown(row) for row in paper]):
        return False
    there = noted(region)
    nears = [noted(near_quarters(tool)) for tool in tools]
    wanted = []
    for number, near in enumerate(nears):
        wanted.extend([(number, corner) for corner in corners_about(near, quarter)])
    if sorted([(row[0], tuple(row[1])) for row in paper]) != wanted:
        return False
    return all([is_missing(nears[row[0]], row[1], row[2], there) for row in paper])


def is_shown(row):
    """Whether a thing is written as a row of a paper: a number, a corner, a quarter."""
    return (
        is_row(row)
        and len(row) == 3
        and is_number(row[0])
        and are_numbers(row[1], 2)
        and are_numbers(row[2], 3)
    )


def is_missing(near, corner, quarter, there):
    """Whether a quarter is one of the near quarters, laid about a corner, and not in a dict."""
    laid = (quarter[0] - corner[0], quarter[1] - corner[1], quarter[2])
    return laid in near and tuple(quarter) not in there
