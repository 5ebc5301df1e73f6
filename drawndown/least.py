"""The least relations of small lots, and clashes: two ways to take a lot's numbers that come to one sum."""

from drawndown.errors import TooMany
from drawndown.lots import want_lot
from drawndown.tables import together
from drawndown.wholes import are_wholes, tuples_between, want_number

MOST_NUMBER = 1000
MOST_OFTEN = 8


def want_small(lot):
    """Refuse what is no lot, then a lot with a number that is too great here."""
    want_lot(lot)
    if max(lot) > MOST_NUMBER:
        raise TooMany("a lot with no number above 1000 is wanted")


def want_small_and_often(lot, number):
    """Refuse what is no small lot, then what is no number that says how often at most."""
    want_small(lot)
    want_number(number, 1, MOST_OFTEN)


def weight(line):
    """The greatest of the line's numbers, those below 0 taken as above 0."""
    return max([abs(number) for number in line])


def length(line):
    """All the line's numbers together, those below 0 taken as above 0."""
    return sum([abs(number) for number in line])


def relations_within(lot, most):
    """The rising list of all relations of the lot, but noughts alone, of no more weight than the most one."""
    # Each half of a relation is gone through by itself, so that the other half is looked up by its sum.
    middle = len(lot) // 2
    by_sum = {}
    for first in tuples_between(middle, -most, most):
        by_sum.setdefault(together(first, lot[:middle]), []).append(first)
    found = []
    for second in tuples_between(len(lot) - middle, -most, most):
        found += [first + second for first in by_sum.get(-together(second, lot[middle:]), [])]
    return sorted([line for line in found if weight(line) > 0])


def by_weight(lot):
    """The rising list of all relations of the least weight."""
    want_small(lot)
    most = 1
    found = relations_within(lot, most)
    while not found:
        most = 2 * most
        found = relations_within(lot, most)
    least = min([weight(line) for line in found])
    return [line for line in found if weight(line) == least]


def by_length(lot):
    """The rising list of all relations of the least length."""
    # No relation weighs more than it is long, so those that weigh more than one is long are longer than it.
    found = relations_within(lot, min([length(line) for line in by_weight(lot)]))
    least = min([length(line) for line in found])
    return [line for line in found if length(line) == least]


def least_weight(lot):
    """The least weight of all relations but noughts alone."""
    return weight(by_weight(lot)[0])


def least_length(lot):
    """The least length of all relations but noughts alone."""
    return length(by_length(lot)[0])


def has_none(lot, number):
    """Whether the lot has no relation but noughts alone of a weight up to the number."""
    want_small_and_often(lot, number)
    return not relations_within(lot, number)


def is_clash(lot, number, thing):
    """Whether the thing, anything, is a clash of the lot and the number."""
    want_small_and_often(lot, number)
    if not isinstance(thing, tuple) or len(thing) != 2:
        return False
    one, other = thing
    if not is_taking(lot, number, one) or not is_taking(lot, number, other):
        return False
    return one < other and together(one, lot) == together(other, lot)


def is_taking(lot, number, thing):
    """Whether the thing tells how often to take each number of the lot, from none to the number."""
    return are_wholes(thing, len(lot)) and min(thing) >= 0 and max(thing) <= number


def first_clash(lot, number):
    """The first clash of the lot and the number as tuples compare, None where there is none."""
    want_small_and_often(lot, number)
    # What two sides of a clash are apart is a relation. Of all clashes with the same one
    # the first has nothing on both sides: what is below 0 in it ahead, what is above behind.
    clashes = [(above(turned(line)), above(line)) for line in relations_within(lot, number) if turned(line) < line]
    return min(clashes, default=None)


def turned(line):
    """The line turned to the other sign."""
    return tuple([-number for number in line])


def above(line):
    """The line with 0 instead of what is below 0."""
    return tuple([max(number, 0) for number in line])
