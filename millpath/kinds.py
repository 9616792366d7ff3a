"""Looks at things of any kind, for the functions that tell whether a thing is what they name."""


def is_number(thing):
    """Whether a thing is a whole number; True and False are none."""
    return isinstance(thing, int) and not isinstance(thing, bool)


def is_row(thing):
    """Whether a thing is a tuple or a list."""
    return isinstance(thing, (list, tuple))


def are_numbers(thing, many):
    """Whether a thing is a tuple or list of just so many numbers."""
    return is_row(thing) and len(thing) == many and all([is_number(part) for part in thing])
