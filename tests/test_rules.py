import functools
import math
import unittest

from drawndown.errors import Ended, NoLot, NoRule
from drawndown.rules import run, step, step_table, tables_of, whole_table
from things import (
    GREAT, RULES, Case, has_ended_by_words, is_lot_by_words, like_places, multiplied_by_words, no_lots, no_rules,
    one_number_by_words, run_by_words, slow_lot, small_lots, some_lots, step_by_words, table_by_words,
)

ENDED = [(5, 0), (0, 5), (1, 0, 0), (0, 3, 0), (0, 0, 0, 7), (GREAT, 0, 0, 0), (0, 0, 1)]
CALLS = (step, step_table, run, tables_of, whole_table)

# Reckoned by hand.
STEPS = {
    "next": [
        ((12, 5), (2, 5), ((1, 2), (0, 1))),
        ((5, 12), (5, 2), ((1, 0), (2, 1))),
        ((5, 5), (0, 5), ((1, 1), (0, 1))),
        ((12, 0, 5), (2, 0, 5), ((1, 0, 2), (0, 1, 0), (0, 0, 1))),
        ((6, 10, 15), (6, 10, 5), ((1, 0, 0), (0, 1, 0), (0, 1, 1))),
        ((3, 9, 9), (3, 0, 9), ((1, 0, 0), (0, 1, 1), (0, 0, 1))),
        ((9, 4, 4), (1, 4, 4), ((1, 2, 0), (0, 1, 0), (0, 0, 1))),
        ((4, 4, 9), (4, 4, 1), ((1, 0, 0), (0, 1, 0), (2, 0, 1))),
        ((7, 7, 7), (0, 7, 7), ((1, 1, 0), (0, 1, 0), (0, 0, 1))),
        ((3, 8, 2, 17), (3, 8, 2, 1), ((1, 0, 0, 0), (0, 1, 0, 0), (0, 0, 1, 0), (0, 2, 0, 1))),
    ],
    "least": [
        ((12, 5), (2, 5), ((1, 2), (0, 1))),
        ((5, 5), (0, 5), ((1, 1), (0, 1))),
        ((12, 0, 5), (2, 0, 5), ((1, 0, 2), (0, 1, 0), (0, 0, 1))),
        ((6, 10, 15), (6, 10, 3), ((1, 0, 0), (0, 1, 0), (2, 0, 1))),
        ((3, 9, 9), (3, 0, 9), ((1, 0, 0), (3, 1, 0), (0, 0, 1))),
        ((9, 4, 4), (1, 4, 4), ((1, 2, 0), (0, 1, 0), (0, 0, 1))),
        ((7, 7, 7), (0, 7, 7), ((1, 1, 0), (0, 1, 0), (0, 0, 1))),
        ((0, 7, 3, 3), (0, 1, 3, 3), ((1, 0, 0, 0), (0, 1, 2, 0), (0, 0, 1, 0), (0, 0, 0, 1))),
        ((3, 8, 2, 17), (3, 8, 2, 1), ((1, 0, 0, 0), (0, 1, 0, 0), (0, 0, 1, 0), (0, 0, 8, 1))),
    ],
    "all": [
        ((12, 5), (2, 5), ((1, 2), (0, 1))),
        ((5, 5), (5, 0), ((1, 0), (1, 1))),
        ((12, 0, 5), (2, 0, 5), ((1, 0, 2), (0, 1, 0), (0, 0, 1))),
        ((6, 10, 15), (6, 4, 3), ((1, 0, 0), (1, 1, 0), (2, 0, 1))),
        ((4, 9, 4), (4, 1, 0), ((1, 0, 0), (2, 1, 0), (1, 0, 1))),
        ((0, 7, 3, 5), (0, 1, 3, 2), ((1, 0, 0, 0), (0, 1, 2, 0), (0, 0, 1, 0), (0, 0, 1, 1))),
        ((3, 8, 2, 17), (1, 0, 2, 1), ((1, 0, 1, 0), (0, 1, 4, 0), (0, 0, 1, 0), (0, 0, 8, 1))),
    ],
    "turn": [
        ((12, 5), (5, 12), ((0, 1), (1, 0))),
        ((5, 12), (2, 5), ((0, 1), (1, 2))),
        ((5, 5), (0, 5), ((0, 1), (1, 1))),
        ((12, 0, 5), (0, 5, 12), ((0, 0, 1), (1, 0, 0), (0, 1, 0))),
        ((0, 5, 3), (5, 3, 0), ((0, 0, 1), (1, 0, 0), (0, 1, 0))),
        ((6, 10, 15), (4, 3, 6), ((0, 0, 1), (1, 0, 1), (0, 1, 2))),
        ((2, 7, 0, 5), (1, 0, 1, 2), ((0, 0, 0, 1), (1, 0, 0, 3), (0, 1, 0, 0), (0, 0, 1, 2))),
        ((0, 0, 4, 6), (0, 4, 6, 0), ((0, 0, 0, 1), (1, 0, 0, 0), (0, 1, 0, 0), (0, 0, 1, 0))),
    ],
}
RUNS = {
    ("next", (12, 5)): [(12, 5), (2, 5), (2, 1), (0, 1)],
    ("least", (12, 5)): [(12, 5), (2, 5), (2, 1), (0, 1)],
    ("all", (12, 5)): [(12, 5), (2, 5), (2, 1), (0, 1)],
    ("turn", (12, 5)): [(12, 5), (5, 12), (2, 5), (1, 2), (0, 1)],
    ("next", (6, 10, 15)): [(6, 10, 15), (6, 10, 5), (6, 4, 5), (1, 4, 5), (1, 4, 1), (1, 0, 1), (0, 0, 1)],
    ("least", (6, 10, 15)): [(6, 10, 15), (6, 10, 3), (6, 1, 3), (0, 1, 3), (0, 1, 0)],
    ("all", (6, 10, 15)): [(6, 10, 15), (6, 4, 3), (0, 1, 3), (0, 1, 0)],
    ("turn", (6, 10, 15)): [(6, 10, 15), (4, 3, 6), (3, 2, 4), (2, 1, 3), (1, 1, 2), (0, 0, 1)],
    ("next", (4, 6, 8, 10)): [
        (4, 6, 8, 10), (4, 6, 8, 2), (4, 6, 2, 2), (4, 2, 2, 2), (0, 2, 2, 2), (0, 0, 2, 2), (0, 0, 0, 2),
    ],
    ("least", (4, 6, 8, 10)): [(4, 6, 8, 10), (4, 6, 8, 2), (4, 6, 0, 2), (4, 0, 0, 2), (0, 0, 0, 2)],
    ("all", (4, 6, 8, 10)): [(4, 6, 8, 10), (4, 2, 0, 2), (0, 2, 0, 0)],
    ("turn", (4, 6, 8, 10)): [(4, 6, 8, 10), (2, 0, 2, 4), (0, 0, 0, 2)],
    ("turn", (0, 5, 3)): [(0, 5, 3), (5, 3, 0), (3, 0, 5), (0, 2, 3), (2, 3, 0), (1, 0, 2), (0, 0, 1)],
}
PRODUCTS = {
    ("next", (12, 5)): ((5, 12), (2, 5)),
    ("turn", (12, 5)): ((5, 12), (2, 5)),
    ("all", (6, 10, 15)): ((1, 6, 2), (1, 10, 3), (2, 15, 5)),
    ("least", (4, 6, 8, 10)): ((1, 0, 0, 2), (0, 1, 0, 3), (0, 0, 1, 4), (2, 0, 0, 5)),
    ("turn", (4, 6, 8, 10)): ((0, 0, 1, 2), (0, 0, 1, 3), (1, 0, 2, 4), (0, 1, 2, 5)),
}


def lots_to_draw_down():
    lots = list(small_lots(two=13, three=6, four=3)) + some_lots(31, 25, 60, 10 ** 9) + some_lots(32, 6, GREAT)
    return [lot for lot in lots if not has_ended_by_words(lot)]


class Interface(Case):
    def test_arguments(self):
        for call in CALLS:
            self.assert_interface(call, "rule", "lot")


class Step(Case):
    def test_by_hand(self):
        for rule, rows in STEPS.items():
            for lot, behind, table in rows:
                self.assert_told(behind, step, rule, lot)
                self.assert_told(table, step_table, rule, lot)

    def test_as_the_words_say(self):
        for rule in RULES:
            for lot in lots_to_draw_down():
                self.assert_told(step_by_words(rule, lot), step, rule, lot)
                self.assert_told(table_by_words(rule, lot), step_table, rule, lot)

    def test_the_table_times_the_lot_behind_is_the_lot(self):
        for rule in RULES:
            for lot in lots_to_draw_down():
                behind, table = step(rule, lot), step_table(rule, lot)
                self.assertTrue(is_lot_by_words(behind))
                self.assertEqual(tuple(sum(map(int.__mul__, line, behind)) for line in table), lot)
                self.assertIn(one_number_by_words(table), (1, -1))

    def test_a_lot_that_has_ended(self):
        for rule in RULES:
            for lot in ENDED:
                self.assert_refused(Ended, step, rule, lot)
                self.assert_refused(Ended, step_table, rule, lot)


class Run(Case):
    def test_by_hand(self):
        for (rule, lot), lots in RUNS.items():
            self.assert_told(lots, run, rule, lot)
        for (rule, lot), product in PRODUCTS.items():
            self.assert_told(product, whole_table, rule, lot)
        self.assert_told([((1, 2), (0, 1)), ((1, 0), (2, 1)), ((1, 2), (0, 1))], tables_of, "next", (12, 5))
        self.assert_told([((0, 1), (1, 0)), ((0, 1), (1, 2)), ((0, 1), (1, 2)), ((0, 1), (1, 2))],
                         tables_of, "turn", (12, 5))
        self.assert_told([((1, 0, 0), (1, 1, 0), (2, 0, 1)), ((1, 0, 2), (0, 1, 1), (0, 0, 1)),
                          ((1, 0, 0), (0, 1, 0), (0, 3, 1))], tables_of, "all", (6, 10, 15))

    def test_as_the_words_say(self):
        for rule in RULES:
            for lot in lots_to_draw_down():
                lots = run_by_words(rule, lot)
                tables = [table_by_words(rule, ahead) for ahead in lots[:-1]]
                self.assert_told(lots, run, rule, lot)
                self.assert_told(tables, tables_of, rule, lot)
                self.assert_told(functools.reduce(multiplied_by_words, tables), whole_table, rule, lot)

    def test_of_a_lot_that_has_ended(self):
        for rule in RULES:
            for lot in ENDED:
                self.assert_told([lot], run, rule, lot)
                self.assert_told([], tables_of, rule, lot)
                self.assert_told(like_places(len(lot)), whole_table, rule, lot)

    def test_the_last_number_is_the_common_by_whichever_rule(self):
        for lot in lots_to_draw_down():
            for rule in RULES:
                self.assertEqual(sorted(run(rule, lot)[-1]), [0] * (len(lot) - 1) + [math.gcd(*lot)])

    def test_runs_of_many_steps(self):
        lots = [slow_lot(size, figures) for size in (2, 3, 4) for figures in (100, 400)]
        longest = 0
        for rule in RULES:
            for lot in lots + [lot[::-1] for lot in lots]:
                told = run(rule, lot)
                longest = max(longest, len(told))
                self.assertEqual(told, run_by_words(rule, lot))
                self.assertEqual(len(tables_of(rule, lot)), len(told) - 1)
                product = whole_table(rule, lot)
                self.assertEqual(tuple(sum(map(int.__mul__, line, told[-1])) for line in product), lot)
        self.assertGreater(longest, 4000)

    def test_told_lists_are_the_askers_own(self):
        for rule in RULES:
            for lot in [(12, 5), (6, 10, 15), (4, 6, 8, 10), (0, 5, 3), (0, 7)]:
                self.assert_own_list(run, rule, lot)
                self.assert_own_list(tables_of, rule, lot)
                told = run(rule, lot)
                told.append((1, 1))
                tables = tables_of(rule, lot)
                tables.append("x")
                self.assertEqual(whole_table(rule, lot), functools.reduce(
                    multiplied_by_words, tables_of(rule, lot), like_places(len(lot))))


class Refused(Case):
    def test_what_is_no_rule(self):
        for call in CALLS:
            for thing in no_rules():
                self.assert_refused(NoRule, call, thing, (12, 5))

    def test_what_is_no_lot(self):
        things = no_lots()
        for call in CALLS:
            for at, thing in enumerate(things):
                self.assert_refused(NoLot, call, RULES[at % 4], thing)
            for rule in RULES:
                for thing in [(5,), (1, 2, 3, 4, 5), (), (0, 0), (3, -1), (True, 2), (2, False), [3, 4], "12:5", None]:
                    self.assert_refused(NoLot, call, rule, thing)

    def test_no_rule_goes_ahead_of_no_lot(self):
        for call in CALLS:
            for thing in no_lots()[::7]:
                self.assert_refused(NoRule, call, "first", thing)
                self.assert_refused(NoRule, call, thing, thing)
            self.assert_refused(NoRule, call, (12, 5), "next")

    def test_no_rule_goes_ahead_of_ended(self):
        for call in CALLS:
            for lot in ENDED:
                self.assert_refused(NoRule, call, "first", lot)
                self.assert_refused(NoRule, call, None, lot)

    def test_no_lot_goes_ahead_of_ended(self):
        for rule in RULES:
            for call in CALLS:
                for thing in [[5, 0], (5,), (5, 0, 0, 0, 0), (True, 0), (5, False), (-5, 0), (0, 0), (5, None)]:
                    self.assert_refused(NoLot, call, rule, thing)


if __name__ == "__main__":
    unittest.main()
