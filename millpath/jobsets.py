"""Sets of jobs, each told as one number: the bit of a job's number is set where the job is in it."""


def rows_of(jobs):
    """The pairs (tool, set of its needs) of some jobs."""
    return [(job[0], set_of(job[1])) for job in jobs]


def set_of(numbers):
    """The set of some jobs' numbers."""
    found = 0
    for number in numbers:
        found |= 1 << number
    return found


def numbers_in(rows, some):
    """The rising list of the numbers of the jobs in a set."""
    return [number for number in range(len(rows)) if some & (1 << number)]


def whole_of(rows):
    """The set of all jobs."""
    return (1 << len(rows)) - 1


def is_part(some, other):
    """Whether a set has no job beyond another one."""
    return some & other == some


def ready(rows, done):
    """The rising list of the numbers of the jobs that are not done and can be, as all that they need is."""
    return [number for number, row in enumerate(rows) if not done & (1 << number) and is_part(row[1], done)]


def tools_in(rows):
    """The rising list of the tools of some jobs."""
    return sorted(set([row[0] for row in rows]))


def goes_on(rows, done, tool):
    """What a tool goes on to: what is done, with all jobs of the tool that can then be done, again and again."""
    more = set_of([number for number in ready(rows, done) if rows[number][0] == tool])
    while more:
        done |= more
        more = set_of([number for number in ready(rows, done) if rows[number][0] == tool])
    return done
