"""Jobs and papers told the slow way, and things of any shape, for the tests to hold the program against."""

from itertools import permutations


def takes_in(jobs, order):
    """How many takes an order of jobs has."""
    tools = [jobs[number][0] for number in order]
    return sum(1 for at, tool in enumerate(tools) if at == 0 or tool != tools[at - 1])


def is_order(jobs, order):
    """Whether an order has each job once, behind all that it needs."""
    if sorted(order) != list(range(len(jobs))):
        return False
    return all(set(jobs[number][1]) <= set(order[:at]) for at, number in enumerate(order))


def plain_least(jobs):
    """The least takes and the first order, every order tried; None where there is no order."""
    orders = [list(order) for order in permutations(range(len(jobs))) if is_order(jobs, order)]
    if not orders:
        return None
    return min((takes_in(jobs, order), order) for order in orders)


def plain_goes_on(jobs, done, tool):
    """The set that a tool goes on to, job by job."""
    done = set(done)
    for _ in jobs:
        for number, (other, needs) in enumerate(jobs):
            if other == tool and set(needs) <= done:
                done.add(number)
    return done


def is_paper(jobs, number, paper):
    """Whether a thing is a paper for a number of takes, by the document's words."""
    if not isinstance(paper, (list, tuple)):
        return False
    if number == 0:
        return len(paper) == 0
    if not jobs or len(paper) != number - 1:
        return False
    ahead = [set()]
    for level in paper:
        if not isinstance(level, (list, tuple)) or not all(is_some(jobs, some) for some in level):
            return False
        for done in ahead:
            for tool in {job[0] for job in jobs}:
                if not any(plain_goes_on(jobs, done, tool) <= set(some) for some in level):
                    return False
        ahead = level
    return True


def is_some(jobs, thing):
    """Whether a thing is a rising tuple of numbers of jobs, not of all."""
    if not isinstance(thing, (list, tuple)) or any(type(part) is not int for part in thing):
        return False
    return list(thing) == sorted(set(thing)) and set(thing) < set(range(len(jobs)))


def random_jobs(source, many, tools, share):
    """Jobs without rings, whose needs may stand behind them in the list, too."""
    names = source.sample(range(many), many)
    jobs = [None] * many
    for at, name in enumerate(names):
        needs = [other for other in names[:at] if source.random() < share]
        jobs[name] = (source.choice(tools), needs)
    return jobs


def random_thing(source, deep, parts):
    """A thing of any shape, at most so deep, of numbers, texts, None, True, False, lists and tuples."""
    if deep == 0 or source.random() < 0.3:
        return source.choice(parts)
    many = source.choice([0, 1, 1, 2, 2, 3, 3, 4])
    inner = [random_thing(source, deep - 1, parts) for _ in range(many)]
    return inner if source.random() < 0.5 else tuple(inner)


def spoiled(source, thing, parts):
    """A thing with something in it, at any depth, changed, dropped, doubled or put in."""
    if not isinstance(thing, (list, tuple)) or not thing or source.random() < 0.15:
        return random_thing(source, 2, parts)
    changed, at = list(thing), source.randrange(len(thing))
    way = source.randrange(6)
    if way == 0:
        del changed[at]
    elif way == 1:
        changed.insert(at, changed[at])
    elif way == 2:
        changed.insert(at, random_thing(source, 2, parts))
    else:
        changed[at] = spoiled(source, changed[at], parts)
    return changed if source.random() < 0.5 else tuple(changed)
