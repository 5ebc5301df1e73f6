"""Lots: tuples of two to four whole numbers from 0 on, not all 0."""

from drawndown.errors import NoLot
from drawndown.wholes import are_wholes, has_size


def is_lot(thing):
    """Whether the thing, anything, is a lot."""
    if not has_size(thing) or not are_wholes(thing, len(thing)):
        return False
    return min(thing) >= 0 and max(thing) > 0


def want_lot(thing):
    """Refuse what is no lot."""
    if not is_lot(thing):
        raise NoLot("a tuple of two to four whole numbers from 0 on, not all 0, is wanted")


def common(lot):
    """The greatest whole number that divides all numbers of the lot."""
    want_lot(lot)
    # Every number divides 0, so 0 to begin with leaves the first number as it is.
    divisor = 0
    for number in lot:
        divisor = common_of_two(divisor, number)
    return divisor


def common_of_two(one, other):
    """The greatest whole number that divides both, 0 where both are 0."""
    while other != 0:
        one, other = other, one % other
    return one


def has_ended(lot):
    """Whether just one number of the lot isn't 0."""
    want_lot(lot)
    return len([number for number in lot if number != 0]) == 1
