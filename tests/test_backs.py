import itertools
import unittest

from drawndown.backs import least_with, lots_to
from drawndown.errors import NoLot, NoNumber, NoRule, NoSize, TooMany
from things import (
    GREAT, RULES, Case, has_ended_by_words, no_lots, no_numbers, no_rules, no_sizes, small_lots, some_lots,
    step_by_words, steps_by_words,
)


def lots_with(size, most):
    return [lot for lot in itertools.product(range(most + 1), repeat=size) if any(lot)]


def ways_by_words(rule, size, most):
    """All lots gone through: for each one what comes to it."""
    ways = {}
    for lot in lots_with(size, most):
        if not has_ended_by_words(lot):
            ways.setdefault(step_by_words(rule, lot), []).append(lot)
    return ways


def least_by_words(rule, size):
    """For each number of steps the first lot that has so many, all lots gone through in order."""
    first = {}
    for most in range(1, 17):
        for lot in lots_with(size, most):
            if max(lot) == most:
                first.setdefault(steps_by_words(rule, lot), lot)
    return first


class Interface(Case):
    def test_arguments(self):
        self.assert_interface(lots_to, "rule", "lot", "most")
        self.assert_interface(least_with, "rule", "size", "steps")


class LotsTo(Case):
    def test_by_hand(self):
        self.assert_told([(7, 5), (12, 5)], lots_to, "next", (2, 5), 12)
        self.assert_told([(7, 5)], lots_to, "least", (2, 5), 11)
        self.assert_told([(7, 5), (12, 5)], lots_to, "all", (2, 5), 12)
        self.assert_told([(5, 2), (5, 7), (5, 12)], lots_to, "turn", (2, 5), 12)
        self.assert_told([(0, 2, 5)], lots_to, "turn", (2, 5, 0), 5)
        self.assert_told([(1, 1)], lots_to, "next", (0, 1), 1)

    def test_a_lot_that_nothing_comes_to(self):
        for rule in RULES:
            self.assert_told([], lots_to, rule, (5, 5), 30)
            self.assert_told([], lots_to, rule, (4, 4, 4), 30)
            self.assert_told([], lots_to, rule, (31, 1), 30)
            self.assert_told([], lots_to, rule, (GREAT, 0, 0), 30)
            self.assert_told([], lots_to, rule, (0, 0, 0, GREAT), 1)
        self.assert_told([], lots_to, "turn", (5, 0), 30)
        self.assert_told([], lots_to, "turn", (0, 5, 0), 30)
        self.assert_told([], lots_to, "turn", (7, 2, 5), 30)

    def test_against_all_lots_gone_through(self):
        for rule in RULES:
            for size, most in ((2, 30), (2, 9), (2, 1), (3, 9), (3, 4), (3, 1), (4, 4), (4, 1)):
                ways = ways_by_words(rule, size, most)
                for lot in lots_with(size, min(most + 2, 12)):
                    self.assert_told(ways.get(lot, []), lots_to, rule, lot, most)

    def test_great_bounds_against_all_lots_gone_through(self):
        for rule in RULES:
            ways = ways_by_words(rule, 3, 30)
            for lot in list(small_lots(three=3)) + [(7, 5, 2), (2, 5, 7), (0, 0, 30), (30, 29, 28), (14, 0, 15)]:
                self.assert_told(ways.get(lot, []), lots_to, rule, lot, 30)

    def test_four_numbers_up_to_ten(self):
        for rule in RULES:
            ways = ways_by_words(rule, 4, 10)
            for lot in list(small_lots(four=2)) + [(1, 0, 3, 2), (0, 2, 1, 5), (3, 1, 4, 10), (0, 0, 0, 6)]:
                if len(ways.get(lot, [])) > 1000:
                    self.assert_refused(TooMany, lots_to, rule, lot, 10)
                else:
                    self.assert_told(ways.get(lot, []), lots_to, rule, lot, 10)

    def test_just_a_thousand_and_more(self):
        for rule, lot, most in [
            ("turn", (1, 1, 1, 2), 20), ("all", (0, 0, 1, 2), 21), ("all", (0, 0, 2, 1), 21), ("all", (0, 1, 1, 2), 21),
        ]:
            told = self.told(lots_to, rule, lot, most)
            self.assertEqual(len(told), 1000)
            self.assertEqual(told, sorted(set(told)))
            for ahead in told:
                self.assertEqual(step_by_words(rule, ahead), lot)
                self.assertLessEqual(max(ahead), most)
        self.assertEqual(len(lots_to("all", (0, 0, 0, 1), 10)), 999)
        for rule, lot, most in [
            ("turn", (1, 1, 1, 2), 21), ("all", (0, 0, 1, 2), 22), ("all", (0, 0, 0, 1), 11),
            ("turn", (0, 0, 0, 1), 30), ("all", (1, 0, 0, 0), 30), ("all", (1, 2, 0, 0), 20), ("all", (0, 0, 1, 0), 10),
        ]:
            self.assert_refused(TooMany, lots_to, rule, lot, most)

    def test_each_comes_to_the_lot_and_no_number_is_above(self):
        for rule in RULES:
            for lot in some_lots(111, 25, 9):
                for most in (12, 30):
                    try:
                        told = lots_to(rule, lot, most)
                    except TooMany:
                        continue
                    self.assertEqual(told, sorted(set(told)))
                    for ahead in told:
                        self.assertEqual(step_by_words(rule, ahead), lot)
                        self.assertLessEqual(max(ahead), most)

    def test_the_told_list_is_the_askers_own(self):
        for rule in RULES:
            for lot in [(2, 5), (0, 0, 1), (1, 1, 2), (0, 1, 0, 3), (5, 5)]:
                self.assert_own_list(lots_to, rule, lot, 9)


class LeastWith(Case):
    def test_by_hand(self):
        self.assert_told((0, 1), least_with, "next", 2, 0)
        self.assert_told((5, 8), least_with, "next", 2, 4)
        self.assert_told((13, 8), least_with, "turn", 2, 6)
        self.assert_told((0, 0, 1), least_with, "all", 3, 0)
        self.assert_told((1, 0, 1), least_with, "turn", 3, 1)
        self.assert_told((9, 12, 16), least_with, "least", 3, 8)
        self.assert_told(None, least_with, "next", 2, 6)

    def test_as_the_words_say(self):
        for rule in RULES:
            for size in (2, 3):
                first = least_by_words(rule, size)
                for steps in range(13):
                    self.assert_told(first.get(steps), least_with, rule, size, steps)
                self.assertIsNone(least_with(rule, size, 12))


class Refused(Case):
    def test_what_is_no_rule(self):
        for thing in no_rules():
            self.assert_refused(NoRule, lots_to, thing, (2, 5), 12)
            self.assert_refused(NoRule, least_with, thing, 2, 3)

    def test_what_is_no_lot(self):
        for at, thing in enumerate(no_lots()):
            self.assert_refused(NoLot, lots_to, RULES[at % 4], thing, 12)

    def test_what_is_no_number(self):
        for at, thing in enumerate(no_numbers(1, 30)):
            self.assert_refused(NoNumber, lots_to, RULES[at % 4], (2, 5), thing)
            self.assert_refused(NoNumber, lots_to, RULES[at % 4], (0, 0, 0, 1), thing)
        for at, thing in enumerate(no_numbers(0, 12)):
            self.assert_refused(NoNumber, least_with, RULES[at % 4], 2 + at % 2, thing)

    def test_what_is_no_size(self):
        for at, thing in enumerate([4] + no_sizes(3)):
            self.assert_refused(NoSize, least_with, RULES[at % 4], thing, 3)

    def test_the_bounds(self):
        for rule in RULES:
            self.assertIsInstance(lots_to(rule, (0, 1), 1), list)
            self.assertIsInstance(lots_to(rule, (0, 1), 30), list)
            for most in (0, 31, -1, True):
                self.assert_refused(NoNumber, lots_to, rule, (0, 1), most)
            for steps in (-1, 13, True, False):
                self.assert_refused(NoNumber, least_with, rule, 2, steps)
            for size in (1, 4, 0, -2, True):
                self.assert_refused(NoSize, least_with, rule, size, 0)

    def test_which_goes_first(self):
        for thing in (None, [2, 5], (0, 0), (1,), "2:5"):
            for number in (0, 31, None, True):
                self.assert_refused(NoRule, lots_to, "first", thing, number)
                self.assert_refused(NoRule, lots_to, None, (2, 5), number)
                self.assert_refused(NoLot, lots_to, "all", thing, number)
        for size in (1, 4, True, None, "2"):
            for steps in (-1, 13, True, None):
                self.assert_refused(NoRule, least_with, "first", size, steps)
                self.assert_refused(NoRule, least_with, "first", 2, steps)
                self.assert_refused(NoSize, least_with, "all", size, steps)


if __name__ == "__main__":
    unittest.main()
