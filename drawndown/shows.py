"""What a run shows: weights that make the common, bases of all relations, and showings."""

from drawndown.lots import common, want_lot
from drawndown.rules import whole_table
from drawndown.tables import number_of, together, turned_back
from drawndown.wholes import are_wholes, is_whole


def are_weights(lot, thing):
    """Whether the thing, anything, is weights of the lot."""
    want_lot(lot)
    return come_to(lot, thing, common(lot))


def is_relation(lot, thing):
    """Whether the thing, anything, is a relation of the lot."""
    want_lot(lot)
    return come_to(lot, thing, 0)


def come_to(lot, thing, number):
    """Whether the thing is as many whole numbers whose products with the lot's come to the number."""
    return are_wholes(thing, len(lot)) and together(thing, lot) == number


def is_base(lot, thing):
    """Whether the thing, anything, is a base of the lot."""
    want_lot(lot)
    if not isinstance(thing, list) or len(thing) != len(lot) - 1:
        return False
    if not all([is_relation(lot, line) for line in thing]):
        return False
    # The one number of the lot and, below it, these relations is, times the common, some
    # whole number times the lot's numbers, each times itself, together. Just of a base that
    # number is 1 or -1: it is 0 where one relation hangs on the others, and where their sums
    # leave out relations of the lot it tells that only one in so many is reached.
    return abs(number_of((lot,) + tuple(thing))) * common(lot) == together(lot, lot)


def is_showing(lot, thing):
    """Whether the thing, anything, is a showing of the lot."""
    want_lot(lot)
    if not isinstance(thing, tuple) or len(thing) != 3:
        return False
    divisor, quotients, line = thing
    if not is_whole(divisor) or divisor <= 0 or not are_wholes(quotients, len(lot)):
        return False
    return tuple([divisor * quotient for quotient in quotients]) == lot and come_to(lot, line, divisor)


def lines_back(rule, lot):
    """The lines of the run's product turned back."""
    return turned_back(whole_table(rule, lot))


# A line of the product turned back makes of the lot the number that stands at the
# line's place in the run's last lot, where all are 0 but one.


def weights(rule, lot):
    """The weights of the lot that its run by the rule shows."""
    return [line for line in lines_back(rule, lot) if together(line, lot) != 0][0]


def base(rule, lot):
    """The base of the lot that its run by the rule shows."""
    return [line for line in lines_back(rule, lot) if together(line, lot) == 0]


def showing(rule, lot):
    """The showing of the lot with the weights by the rule."""
    line = weights(rule, lot)
    divisor = common(lot)
    return divisor, tuple([number // divisor for number in lot]), line
