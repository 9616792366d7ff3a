"""Corners, the eight directions between them, and the quarters of cells [3]."""

STEPS = ((1, 0), (1, 1), (0, 1), (-1, 1), (-1, 0), (-1, -1), (0, -1), (1, -1))
INNER = ((3, 2), (2, 3), (1, 2), (2, 1))


def stepped(corner, direction, many):
    """The corner that lies many steps on from a corner."""
    step = STEPS[direction]
    return (corner[0] + step[0] * many, corner[1] + step[1] * many)


def straight(one, other):
    """The pair (direction, many) of the steps from one to other; None where there is none."""
    many = max(abs(other[0] - one[0]), abs(other[1] - one[1]))
    if many == 0:
        return None
    for direction in range(len(STEPS)):
        if stepped(one, direction, many) == tuple(other):
            return (direction, many)
    return None


def inner_point(quarter):
    """A point within a quarter and on no edge of any, told four times so that it is whole."""
    inner = INNER[quarter[2]]
    return (4 * quarter[0] + inner[0], 4 * quarter[1] + inner[1])
