"""Whole numbers and tuples of them: what lots and tables alike are built of."""

from drawndown.errors import NoNumber, NoSize

LEAST_SIZE = 2
MOST_SIZE = 4


def is_whole(thing):
    """Whether the thing is a whole number."""
    # Python counts True and False among its ints; here they are no numbers.
    return isinstance(thing, int) and not isinstance(thing, bool)


def are_wholes(thing, many):
    """Whether the thing is a tuple of just so many whole numbers."""
    if not isinstance(thing, tuple) or len(thing) != many:
        return False
    return all([is_whole(part) for part in thing])


def has_size(thing):
    """Whether the thing is a tuple of as many parts as a lot or a table may have."""
    return isinstance(thing, tuple) and LEAST_SIZE <= len(thing) <= MOST_SIZE


def want_number(thing, least, most):
    """Refuse what is no whole number from the least to the most one."""
    if not is_whole(thing) or not least <= thing <= most:
        raise NoNumber("a whole number within the bounds is wanted")


def want_size(thing, most):
    """Refuse what is no size up to the most one."""
    if not is_whole(thing) or not LEAST_SIZE <= thing <= most:
        raise NoSize("a size within the bounds is wanted")


def tuples_between(size, least, most):
    """The rising list of all tuples of so many whole numbers from the least to the most one."""
    found = [()]
    for place in range(size):
        found = [ahead + (number,) for ahead in found for number in range(least, most + 1)]
    return found
