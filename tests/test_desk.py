import math
import random
import re
import unittest

from bench_things import Book
from drawndown.bench import Bench
from drawndown.desk import Desk
from drawndown.errors import Ended, NoDeed, NoRow, NoStep
from things import GREAT, OTHER_KINDS, RULES, Case, anything, lines_by_words, some_lot, some_lots

NUMBER = "(?:0|[1-9][0-9]*)"
LOT_ROW = re.compile(rf"lot ({NUMBER}(?::{NUMBER}){{1,3}})")
RULE_ROW = re.compile("(step|all|weights) (next|least|all|turn)")
PLAIN_ROW = re.compile("(back|undo|show|steps|common)")
DEEDS = {"lot": "lay", "step": "step", "all": "run", "back": "back", "undo": "undo"}


def words_by_words(row):
    """The head of a right row and what it hands in, None of anything else."""
    if type(row) is not str:
        return None
    match = LOT_ROW.fullmatch(row)
    if match:
        lot = tuple(map(int, match[1].split(":")))
        return ("lot", lot) if any(lot) else None
    match = RULE_ROW.fullmatch(row) or PLAIN_ROW.fullmatch(row)
    return match.groups() if match else None


def weights_by_words(rule, lot):
    lines, last = lines_by_words(rule, lot)
    return lines[[at for at, number in enumerate(last) if number != 0][0]]


def answer_by_words(book, row):
    """What the desk is to answer, a text, or the refusal that is due; the book is written on."""
    words = words_by_words(row)
    if words is None:
        return NoRow
    if words[0] in DEEDS:
        return getattr(book, DEEDS[words[0]])(*words[1:]) or "ok"
    lot, tables = book.now()
    if words[0] == "show":
        return str(lot)[1:-1].replace(", ", ":")
    if words[0] == "steps":
        return str(len(tables))
    if words[0] == "common":
        return str(math.gcd(*lot))
    return ":".join(map(str, weights_by_words(words[1], lot)))


def some_row(dice):
    """A row that is right, or nearly so."""
    lot = ":".join(map(str, some_lot(dice, dice.choice((2, 3, 4)), dice.choice((5, 60, 10 ** 20)))))
    rule = dice.choice(RULES)
    row = dice.choice((
        f"lot {lot}", f"step {rule}", f"step {rule}", f"all {rule}", "back", "back", "undo", "undo", "show", "steps",
        "common", f"weights {rule}",
    ))
    if dice.randrange(5) > 0:
        return row
    at = dice.randrange(len(row) + 1)
    sign = dice.choice(" \t\n:0-+~x")
    return dice.choice((row[:at] + sign + row[at:], row[:at] + row[at + 1:], row + " all", row.upper(), row.title()))


def rows_nearly_right():
    """Rows that are nearly one."""
    rows = ["lot 12:5", "lot 12:0:5", "step next", "step all", "all turn", "all all", "weights least", "back", "undo",
            "show", "steps", "common"]
    near = []
    for row in rows:
        near += [" " + row, row + " ", "\t" + row, row + "\t", row + "\n", "\n" + row, row + "\n\n", row.upper()]
        near += [row.capitalize(), row + " x", row + " " + row, row + " next", row + ":", row + "s", row[:-1], row[1:]]
        near += [row.replace(" ", "  "), row.replace(" ", "\t"), row.replace(" ", "\n"), row.replace(" ", "")]
        near += [row.replace(" ", ":"), row.replace(" ", "   "), '"' + row + '"']
    near += ["lot", "lot ", "step", "step ", "all", "all ", "weights", "lot 12", "lot 0:0", "lot 0:0:0:0"]
    near += ["lot 1:2:3:4:5", "lot 012:5", "lot 12:05", "lot 00:1", "lot +12:5", "lot -12:5", "lot 12:-5", "lot 12:+5"]
    near += ["lot 12: 5", "lot 12 5", "lot 12,5", "lot (12, 5)", "lot 1_2:5", "lot 12::5", "lot :12:5", "lot 12:5:"]
    near += ["lot 1.0:5", "lot a:b", "lot next", "step 12:5", "step first", "step Next", "step NEXT", "step nex"]
    near += ["step nexts", "all x", "weights next all", "weights 1", "step next next", "step next,all", "next step"]
    near += ["next", "turn", "12:5", "", " ", "  ", "\n", "\t", "ok", "lay 12:5", "run next"]
    near += ["tables", "product", "lot 12:5 lot 12:5", "show show"]
    near += ["undo 1", "back 1", "back next", "show 12:5", "steps next", "common 12:5", "lot\u00a012:5", "lot \u0661:2"]
    # Some of these are right again (a row without its last sign, or with another one behind it).
    return [row for row in near if words_by_words(row) is None]


class DeskCase(Case):
    def assert_says(self, desk, *told):
        """Row and answer by turns."""
        for row, answer in zip(told[::2], told[1::2]):
            said = desk.say(row)
            self.assertIs(type(said), str)
            self.assertEqual(said, answer, row)

    def looked_at(self, desk):
        """All that a desk tells, without a deed."""
        return [desk.say(row) for row in ["show", "steps", "common"] + [f"weights {rule}" for rule in RULES]]

    def assert_unchanged(self, error, desk, row):
        ahead = self.looked_at(desk)
        self.assert_refused(error, desk.say, row)
        self.assertEqual(self.looked_at(desk), ahead)


class Interface(DeskCase):
    def test_arguments(self):
        self.assert_interface(Desk)
        self.assert_interface(Desk().say, "row")


class Rows(DeskCase):
    def test_at_first(self):
        self.assert_says(Desk(), "show", "1:0", "steps", "0", "common", "1", "weights all", "1:0", "all next", "ok",
                         "show", "1:0", "steps", "0", "undo", "ok")

    def test_by_hand(self):
        self.assert_says(
            Desk(), "lot 6:10:15", "ok", "show", "6:10:15", "steps", "0", "common", "1", "weights all", "1:1:-1",
            "weights turn", "1:1:-1", "step all", "ok", "show", "6:4:3", "steps", "1", "all next", "ok", "steps", "6",
            "show", "0:0:1", "back", "ok", "show", "0:1:1", "undo", "ok", "show", "0:0:1", "undo", "ok",
            "show", "6:4:3", "undo", "ok", "show", "6:10:15", "undo", "ok", "show", "1:0",
        )

    def test_the_common_and_weights_below_nought(self):
        self.assert_says(
            Desk(), "lot 12:0:8", "ok", "common", "4", "weights next", "1:0:-1", "lot 0:0:0:7", "ok", "common", "7",
            "weights least", "0:0:0:1", "lot 5:12", "ok", "weights next", "5:-2", "weights turn", "5:-2",
        )

    def test_lots_of_many_figures(self):
        lot = f"{10 ** 140}:{10 ** 140 + 1}"
        self.assert_says(Desk(), f"lot {lot}", "ok", "show", lot, "weights next", "-1:1", "all next", "ok",
                         "common", "1")

    def test_all_rules(self):
        for lot in some_lots(131, 6, 60, 10 ** 30):
            for rule in RULES:
                desk, book = Desk(), Book()
                row = "lot " + ":".join(map(str, lot))
                for each in (row, f"weights {rule}", f"step {rule}", "show", f"all {rule}", "show", "steps", "common"):
                    wanted = answer_by_words(book, each)
                    if isinstance(wanted, str):
                        self.assert_says(desk, each, wanted)
                    else:
                        self.assert_unchanged(wanted, desk, each)

    def test_long_rows_of_deeds_on_two_desks_at_once(self):
        for seed in range(25):
            dice = random.Random(2000 + seed)
            desks = [(Desk(), Book()), (Desk(), Book())]
            for count in range(150):
                desk, book = dice.choice(desks)
                row = some_row(dice)
                wanted = answer_by_words(book, row)
                if isinstance(wanted, str):
                    self.assert_says(desk, row, wanted)
                else:
                    self.assert_unchanged(wanted, desk, row)
                for other, of_other in desks:
                    self.assert_says(other, "show", answer_by_words(of_other, "show"),
                                     "steps", answer_by_words(of_other, "steps"))

    def test_what_is_asked_is_no_deed(self):
        desk = Desk()
        desk.say("lot 12:5")
        self.looked_at(desk)
        self.assert_says(desk, "undo", "ok", "show", "1:0")
        self.assert_unchanged(NoDeed, desk, "undo")

    def test_a_desk_and_a_bench_have_nothing_in_common(self):
        bench, one, other = Bench(), Desk(), Desk()
        one.say("lot 12:5")
        bench.lay((3, 4))
        self.assert_says(one, "show", "12:5")
        self.assert_says(other, "show", "1:0")
        self.assertEqual(bench.lot(), (3, 4))


class Refused(DeskCase):
    def desks(self):
        """A fresh desk, one with steps done, and one whose lot has ended."""
        found = [Desk(), Desk(), Desk()]
        for row in ("lot 60:37:22", "step next", "step turn"):
            found[1].say(row)
        for row in ("lot 12:5", "all least"):
            found[2].say(row)
        return found

    def test_rows_that_are_nearly_one(self):
        rows = rows_nearly_right()
        self.assertGreater(len(rows), 250)
        for desk in self.desks():
            for row in rows:
                self.assert_unchanged(NoRow, desk, row)

    def test_what_is_no_text(self):
        things = anything((12, 5)) + OTHER_KINDS + [b"show", ["show"], ("lot", "12:5"), {"show": 1}, ["lot", (12, 5)]]
        things += ["x" * 300, "lot " + "9" * 296, " " * 300, "~" * 300]
        for thing in things:
            self.assertIsNone(words_by_words(thing))
        for desk in self.desks():
            ahead = self.looked_at(desk)
            for thing in things:
                self.assert_refused(NoRow, desk.say, thing)
            self.assertEqual(self.looked_at(desk), ahead)

    def test_what_is_refused_is_no_deed(self):
        desk = Desk()
        desk.say("lot 12:5")
        for row in ("lot 0:0", "step first", "nothing", "", None, "back"):
            with self.assertRaises(ValueError):
                desk.say(row)
        self.assert_says(desk, "undo", "ok", "show", "1:0")
        self.assert_unchanged(NoDeed, desk, "undo")

    def test_right_rows_are_refused_as_the_bench_tells(self):
        desk = Desk()
        for rule in RULES:
            self.assert_unchanged(Ended, desk, f"step {rule}")
        self.assert_unchanged(NoStep, desk, "back")
        self.assert_unchanged(NoDeed, desk, "undo")
        self.assert_says(desk, f"lot {GREAT}:{GREAT}", "ok", "all all", "ok", "back", "ok")
        self.assert_unchanged(NoStep, desk, "back")

    def test_no_row_goes_ahead_of_all_else(self):
        desk = Desk()
        for row in ("step first", "step ", "step next ", "back ", "undo  ", " undo", "back back", "lot 0:0", "all x"):
            self.assert_unchanged(NoRow, desk, row)


if __name__ == "__main__":
    unittest.main()
