"""Orders of jobs that take tools least, and papers that fewer takes don't do [20] [21]."""

from millpath.errors import Round
from millpath.jobsets import goes_on, numbers_in, ready, rows_of, set_of, tools_in, whole_of


def least_takes(jobs):
    """The pair of the least number of takes and the first order of the jobs with so many."""
    rows = rows_of(jobs)
    refuse_rings(rows)
    least = takes_from_all(rows)
    order = []
    done = 0
    tool = None
    while done != whole_of(rows):
        takes = least[(done, tool)]
        good = [number for number in ready(rows, done) if takes_by(rows, least, done, tool, number) == takes]
        order.append(good[0])
        done |= 1 << good[0]
        tool = rows[good[0]][0]
    return (least[(0, None)], order)


def refuse_rings(rows):
    """Refuses jobs whose needs go round: then some can never be done."""
    done = 0
    more = ready(rows, done)
    while more:
        done |= set_of(more)
        more = ready(rows, done)
    if done != whole_of(rows):
        raise Round("the needs of some jobs go round in a ring")


def takes_from_all(rows):
    """The least number of takes still to come, by the pair of the jobs done and the tool taken last."""
    least = {}
    # A set with one job more is a greater number, so what is asked for is there already.
    for done in range(whole_of(rows), -1, -1):
        numbers = ready(rows, done)
        for tool in [None] + tools_in(rows):
            takes = [takes_by(rows, least, done, tool, number) for number in numbers]
            least[(done, tool)] = min(takes, default=0)
    return least


def takes_by(rows, least, done, tool, number):
    """The least number of takes still to come where a job is done next."""
    taken = rows[number][0]
    return least[(done | (1 << number), taken)] + (0 if tool == taken else 1)


def bound_of(jobs):
    """A paper that fewer takes than the least number don't do: lists of what may be done behind 1, 2 .. takes."""
    rows = rows_of(jobs)
    refuse_rings(rows)
    levels = [[0]]
    while whole_of(rows) not in levels[-1]:
        levels.append(next_level(rows, levels[-1]))
    return [told_level(rows, level) for level in levels[1:-1]]


def next_level(rows, level):
    """The unlike sets that the tools go on to from those of a level."""
    found = {}
    for done in level:
        for tool in tools_in(rows):
            more = goes_on(rows, done, tool)
            # A tool that does no job goes on to a part of what another one goes on to.
            if more != done:
                found[more] = True
    return list(found)


def told_level(rows, level):
    """A level's sets as rising tuples."""
    return [tuple(numbers_in(rows, done)) for done in level]
