"""Fractions with one lower number, the bottom, that come near to all parts of a lot at once."""

from drawndown.errors import NoBottom
from drawndown.lots import want_lot
from drawndown.rules import products_of, want_rule
from drawndown.tables import columns_of
from drawndown.wholes import want_number

MOST_BOTTOM = 10 ** 12
MOST_RECORDS = 1000


def want_bottom(lot):
    """Refuse what is no lot, then a lot whose last number is 0."""
    want_lot(lot)
    if lot[-1] == 0:
        raise NoBottom("a lot whose last number isn't 0 is wanted")


def tops(lot, bottom):
    """The tops of the lot's parts by the bottom: a tuple."""
    want_bottom(lot)
    want_number(bottom, 1, MOST_BOTTOM)
    return tuple([nearest_whole(bottom * part, lot[-1]) for part in lot[:-1]])


def nearest_whole(number, by):
    """The whole number nearest to the number through the other one, of two as near the lesser one."""
    whole, rest = divmod(number, by)
    return whole + 1 if 2 * rest > by else whole


def errors(lot, bottom):
    """The errors of the lot's parts by the bottom: a tuple."""
    found = tops(lot, bottom)
    return tuple([bottom * part - top * lot[-1] for part, top in zip(lot[:-1], found)])


def worst(lot, bottom):
    """The greatest of the errors by the bottom, those below 0 taken as above 0."""
    return max([abs(error) for error in errors(lot, bottom)])


def records(lot, most):
    """The list of all (bottom, worst) up to the number whose worst is less than those of all lesser bottoms."""
    want_bottom(lot)
    want_number(most, 1, MOST_RECORDS)
    found = [(1, worst(lot, 1))]
    for bottom in range(2, most + 1):
        of_bottom = worst(lot, bottom)
        if of_bottom < found[-1][1]:
            found.append((bottom, of_bottom))
    return found


def columns(rule, lot):
    """The list of the columns, none twice, of the growing products of the run's tables, but those with 0 last."""
    want_rule(rule)
    want_bottom(lot)
    # A dict keeps each key where it came first.
    found = {}
    for product in products_of(rule, lot)[1:]:
        for column in columns_of(product):
            if column[-1] != 0:
                found[column] = True
    return list(found)
