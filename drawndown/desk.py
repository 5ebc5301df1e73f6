"""A desk: a bench that is told rows of words, and answers texts."""

from drawndown.bench import Bench
from drawndown.errors import NoRow, NoText
from drawndown.lots import common
from drawndown.rules import is_rule
from drawndown.shows import weights
from drawndown.texts import BETWEEN, in_figures, read, written

DONE = "ok"


def lay_lot(bench, lot):
    """The row `lot L`: another lot is set."""
    bench.lay(lot)
    return DONE


def do_step(bench, rule):
    """The row `step R`: a step is done."""
    bench.step(rule)
    return DONE


def do_run(bench, rule):
    """The row `all R`: all of a run is done."""
    bench.run(rule)
    return DONE


def tell_weights(bench, rule):
    """The row `weights R`: the weights of the lot."""
    return BETWEEN.join([with_sign(number) for number in weights(rule, bench.lot())])


def take_back(bench):
    """The row `back`: a step is taken back."""
    bench.back()
    return DONE


def undo_deed(bench):
    """The row `undo`: the last deed is undone."""
    bench.undo()
    return DONE


def tell_lot(bench):
    """The row `show`: the lot."""
    return written(bench.lot())


def tell_steps(bench):
    """The row `steps`: how many tables there are."""
    return in_figures(len(bench.tables()))


def tell_common(bench):
    """The row `common`: the common of the lot."""
    return in_figures(common(bench.lot()))


def with_sign(number):
    """A number in figures, below 0 with `-` ahead."""
    return in_figures(number) if number >= 0 else "-" + in_figures(-number)


BY_LOT = {"lot": lay_lot}
BY_RULE = {"step": do_step, "all": do_run, "weights": tell_weights}
ALONE = {"back": take_back, "undo": undo_deed, "show": tell_lot, "steps": tell_steps, "common": tell_common}


class Desk:
    """A bench that is told rows."""

    def __init__(self):
        self.bench = Bench()

    def say(self, row):
        """Do what the row asks of the bench, and answer it."""
        words = row.split(" ") if isinstance(row, str) else []
        if len(words) == 1 and words[0] in ALONE:
            deed = ALONE[words[0]]
            return deed(self.bench)
        if len(words) == 2 and words[0] in BY_RULE and is_rule(words[1]):
            deed = BY_RULE[words[0]]
            return deed(self.bench, words[1])
        if len(words) == 2 and words[0] in BY_LOT:
            deed = BY_LOT[words[0]]
            return deed(self.bench, lot_in(words[1]))
        raise NoRow("a row that a desk knows is wanted")


def lot_in(word):
    """The lot that is written as this word."""
    try:
        return read(word)
    except NoText:
        raise NoRow("a lot as it is written is wanted") from None
