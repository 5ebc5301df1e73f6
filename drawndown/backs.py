"""Lots led back: those that come to a lot by one step, and the first ones with so many steps."""

from drawndown.beside import steps_of_all
from drawndown.errors import TooMany
from drawndown.lots import has_ended
from drawndown.rules import step, want_rule, want_rule_and_lot
from drawndown.wholes import want_number, want_size

MOST_AHEAD = 30
MOST_LOTS = 1000
MOST_SIZE_LED = 3
MOST_STEPS = 12
MOST_NUMBER = 16


def lots_to(rule, lot, most):
    """The rising list of all lots with no number above the most one that come to the lot by one step of the rule."""
    want_rule_and_lot(rule, lot)
    want_number(most, 1, MOST_AHEAD)
    found = []
    for ahead in maybe_ahead(rule, lot, most):
        if max(ahead) <= most and comes_to(rule, ahead, lot):
            found.append(ahead)
        if len(found) > MOST_LOTS:
            raise TooMany("a lot that no more than 1000 lots come to is wanted")
    return sorted(found)


def comes_to(rule, ahead, lot):
    """Whether the one lot comes to the other one by one step."""
    return not has_ended(ahead) and step(rule, ahead) == lot


def maybe_ahead(rule, lot, most):
    """The list of all lots that may come to the lot by one step; whether they do is still to be looked at."""
    if rule == "turn":
        return undivided(lot[-1:] + lot[:-1], 0, most)
    if rule == "all":
        # What is left is less than what divided, so that is the greatest now.
        return undivided(lot, lot.index(max(lot)), most)
    return one_greater(lot, most)


def one_greater(lot, most):
    """All lots that have one greater number, up to the most one, and else are like the lot."""
    return [
        lot[:at] + (number,) + lot[at + 1:]
        for at in range(len(lot)) for number in range(lot[at] + 1, most + 1)
    ]


def undivided(lot, by, most):
    """All lots of which this one is left when the number at this place, where it isn't 0, divides the others."""
    if lot[by] == 0:
        return [lot]
    found = [()]
    for at, number in enumerate(lot):
        numbers = [number] if at == by else numbers_leaving(number, lot[by], most)
        found = [ahead + (greater,) for ahead in found for greater in numbers]
    return found


def numbers_leaving(left, divider, most):
    """All numbers up to the most one of which so much is left when the divider divides them."""
    return list(range(left, most + 1, divider)) if left < divider else []


def least_with(rule, size, steps):
    """The first lot whose run has just so many steps, by its greatest number and then as tuples compare, or None."""
    want_rule(rule)
    want_size(size, MOST_SIZE_LED)
    want_number(steps, 0, MOST_STEPS)
    many = steps_of_all(rule, size, MOST_NUMBER)
    found = [(max(lot), lot) for lot in many if many[lot] == steps]
    return min(found)[1] if found else None
