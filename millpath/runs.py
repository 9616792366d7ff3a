"""Runs: lists of corners, each a step from the one ahead [10]."""

from millpath.corners import stepped, straight

ANY_TURN = (0, 1, 2, 3, 4, 5, 6, 7)
TURNS = (0, 1, 7, 2, 6, 3, 5)


def runs(points):
    """The list of the runs that lead once through some unlike corners."""
    found = []
    waiting = dict([(tuple(point), True) for point in points])
    for point in sorted(waiting):
        if waiting[point]:
            found.append(closed(run_from(point, waiting)))
    return found


def run_from(point, waiting):
    """The run from a point through points that wait; those it comes to wait no more."""
    run = [point]
    waiting[point] = False
    direction = next_direction(point, 0, ANY_TURN, waiting)
    while direction is not None:
        run.append(stepped(run[-1], direction, 1))
        waiting[run[-1]] = False
        direction = next_direction(run[-1], direction, TURNS, waiting)
    return run


def next_direction(point, direction, turns, waiting):
    """The first direction, by turns from one, in which the next point waits; None where there is none."""
    for turn in turns:
        onward = (direction + turn) % 8
        if waiting.get(stepped(point, onward, 1), False):
            return onward
    return None


def closed(run):
    """A run with its first point put behind, where it has 3 points or more and its ends are a step apart."""
    lead = straight(run[-1], run[0])
    if len(run) > 2 and lead is not None and lead[1] == 1:
        return run + run[:1]
    return run
