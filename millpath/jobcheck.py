"""Whether a paper shows that fewer takes don't do [21]."""

from millpath.jobsets import goes_on, is_part, rows_of, set_of, tools_in
from millpath.kinds import is_number, is_row


def shows_bound(jobs, number, paper):
    """Whether a paper shows that some jobs ask for number takes at least."""
    if not is_row(paper) or len(paper) != max(number - 1, 0):
        return False
    if len(jobs) == 0:
        return number == 0
    if not all([is_level(level, len(jobs)) for level in paper]):
        return False
    rows = rows_of(jobs)
    ahead = [0]
    for level in paper:
        found = [set_of(some) for some in level]
        if not goes_into(rows, ahead, found):
            return False
        ahead = found
    return True


def is_level(thing, many):
    """Whether a thing is a list of rising tuples of the numbers of some of so many jobs, but never of all."""
    return is_row(thing) and all([is_rising(some, many) and len(some) < many for some in thing])


def is_rising(thing, many):
    """Whether a thing is a tuple of numbers below so many, each greater than the one ahead."""
    if not is_row(thing) or not all([is_number(part) and 0 <= part < many for part in thing]):
        return False
    return all([one < other for one, other in zip(thing, thing[1:])])


def goes_into(rows, ahead, level):
    """Whether what each tool goes on to from each of the sets ahead is part of one in a level."""
    known = dict([(some, True) for some in level])
    for done in ahead:
        for tool in tools_in(rows):
            more = goes_on(rows, done, tool)
            if more not in known and not any([is_part(more, some) for some in level]):
                return False
    return True
