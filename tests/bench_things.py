"""What the tests of the bench and the desk share: a book that is kept beside a bench, by the document's words."""

import functools

from drawndown.errors import Ended, NoDeed, NoLot, NoRule, NoStep
from things import (
    RULES, has_ended_by_words, is_lot_by_words, like_places, multiplied_by_words, step_by_words, table_by_words,
)


class Book:
    """The lot and the tables as they are to be, page by page; a deed tells the refusal that is due, or None."""

    def __init__(self):
        self.pages = [((1, 0), [])]

    def now(self):
        return self.pages[-1]

    def write(self, lot, tables):
        self.pages.append((lot, list(tables)))

    def lay(self, lot):
        if not is_lot_by_words(lot):
            return NoLot
        self.write(lot, [])

    def step(self, rule):
        lot, tables = self.now()
        if rule not in RULES:
            return NoRule
        if has_ended_by_words(lot):
            return Ended
        self.write(step_by_words(rule, lot), tables + [table_by_words(rule, lot)])

    def run(self, rule):
        lot, tables = self.now()
        if rule not in RULES:
            return NoRule
        while not has_ended_by_words(lot):
            tables = tables + [table_by_words(rule, lot)]
            lot = step_by_words(rule, lot)
        self.write(lot, tables)

    def back(self):
        lot, tables = self.now()
        if not tables:
            return NoStep
        ahead = tuple(sum(one * other for one, other in zip(line, lot)) for line in tables[-1])
        self.write(ahead, tables[:-1])

    def undo(self):
        if len(self.pages) == 1:
            return NoDeed
        self.pages.pop()

    def product(self):
        lot, tables = self.now()
        return functools.reduce(multiplied_by_words, tables, like_places(len(lot)))


def some_deed(dice):
    """The name of a deed and what is handed in, wrong things among them."""
    name = dice.choice(("lay", "step", "step", "step", "step", "run", "back", "back", "undo", "undo", "undo"))
    if name == "lay":
        size = dice.choice((2, 3, 4))
        lot = tuple(dice.randint(0, dice.choice((3, 50, 10 ** 12))) for place in range(size))
        return name, (dice.choice((lot, lot, lot, lot, list(lot), lot[:1], (0,) * size, None)),)
    if name in ("step", "run"):
        return name, (dice.choice(RULES * 3 + ("first", "Next", "", None, 0)),)
    return name, ()
