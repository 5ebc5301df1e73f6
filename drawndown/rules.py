"""The four rules by which lots are drawn down: their steps, the tables of these, and whole runs."""

from drawndown.errors import Ended, NoRule
from drawndown.lots import has_ended, want_lot
from drawndown.tables import growing_products, like_places


def greatest_and_others(lot):
    """The place of the greatest number, and the lot with a nought there."""
    at = lot.index(max(lot))
    return at, lot[:at] + (0,) + lot[at + 1:]


def least_place(lot):
    """The place of the least number that isn't 0."""
    return lot.index(min([number for number in lot if number != 0]))


def all_but(lot, place):
    """The list of all places of the lot but this one."""
    return [at for at in range(len(lot)) if at != place]


# Each rule tells, of a lot that hasn't ended, the place of the number that divides
# and the list of the places whose numbers are divided by it.


def by_next(lot):
    """The greatest number is divided by the greatest of the others."""
    greatest, others = greatest_and_others(lot)
    return others.index(max(others)), [greatest]


def by_least(lot):
    """The greatest number is divided by the least of the others that isn't 0."""
    greatest, others = greatest_and_others(lot)
    return least_place(others), [greatest]


def by_all(lot):
    """All others are divided by the least number that isn't 0."""
    by = least_place(lot)
    return by, all_but(lot, by)


def by_turn(lot):
    """All others are divided by the first number, where it isn't 0."""
    if lot[0] == 0:
        return 0, []
    return 0, all_but(lot, 0)


RULES = {"next": by_next, "least": by_least, "all": by_all, "turn": by_turn}


def is_rule(thing):
    """Whether the thing is the name of a rule."""
    return isinstance(thing, str) and thing in RULES


def want_rule(thing):
    """Refuse what is no name of a rule."""
    if not is_rule(thing):
        raise NoRule("the name of a rule, next, least, all or turn, is wanted")


def want_rule_and_lot(rule, lot):
    """Refuse what is no rule, then what is no lot."""
    want_rule(rule)
    want_lot(lot)


def want_step(rule, lot):
    """Refuse what has no step by the rule."""
    want_rule_and_lot(rule, lot)
    if has_ended(lot):
        raise Ended("a lot with more than one number that isn't 0 is wanted")


def step(rule, lot):
    """The lot behind one step of this one by the rule."""
    want_step(rule, lot)
    by, quotients = division(rule, lot)
    left = tuple([number - quotient * lot[by] for number, quotient in zip(lot, quotients)])
    return moved(rule, left)


def step_table(rule, lot):
    """The table of one step: times the lot behind the step it is the lot ahead."""
    want_step(rule, lot)
    by, quotients = division(rule, lot)
    return tuple([
        moved(rule, line[:by] + (line[by] + quotient,) + line[by + 1:])
        for line, quotient in zip(like_places(len(lot)), quotients)
    ])


def division(rule, lot):
    """The place of the number that divides, and the quotients, 0 where nothing is divided."""
    deal = RULES[rule]
    by, divided = deal(lot)
    return by, [lot[at] // lot[by] if at in divided else 0 for at in range(len(lot))]


def moved(rule, numbers):
    """The numbers as they stand behind a step: by `turn` the first one goes behind the others."""
    return numbers[1:] + numbers[:1] if rule == "turn" else numbers


def run(rule, lot):
    """The list of the lots from this one on, a step each, up to the one that has ended."""
    want_rule_and_lot(rule, lot)
    lots = [lot]
    while not has_ended(lots[-1]):
        lots.append(step(rule, lots[-1]))
    return lots


def tables_of(rule, lot):
    """The list of the tables of the run's steps."""
    return [step_table(rule, ahead) for ahead in run(rule, lot)[:-1]]


def products_of(rule, lot):
    """The list of the products of the run's first tables: of none, of one, up to all of them."""
    tables = tables_of(rule, lot)
    return growing_products(len(lot), tables)


def whole_table(rule, lot):
    """The product of the tables of the run's steps."""
    return products_of(rule, lot)[-1]
