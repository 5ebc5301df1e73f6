import itertools
import math
import random
import unittest
from fractions import Fraction

from drawndown.errors import NoBottom, NoLot, NoNumber, NoRule
from drawndown.nearest import columns, errors, records, tops, worst
from things import (
    GREAT, RULES, Case, has_ended_by_words, like_places, multiplied_by_words, no_lots, no_numbers, no_rules,
    run_by_words, slow_lot, small_lots, some_lots, table_by_words,
)

MOST = 10 ** 12
BY_BOTTOM = (tops, errors, worst)
BY_NUMBER = BY_BOTTOM + (records,)
BOTTOMLESS = [(1, 0), (12, 5, 0), (5, 0, 0), (1, 2, 3, 0), (GREAT, 0)]


def top_by_words(part, last, bottom):
    """The nearest of all whole numbers about it, of two as near the lesser one."""
    about = bottom * part // last
    return min(range(about - 2, about + 4), key=lambda top: (abs(Fraction(top, bottom) - Fraction(part, last)), top))


def tops_by_words(lot, bottom):
    return tuple(top_by_words(part, lot[-1], bottom) for part in lot[:-1])


def errors_by_words(lot, bottom):
    """From what the fractions are apart, times both lower numbers."""
    apart = [Fraction(part, lot[-1]) - Fraction(top, bottom) for part, top in zip(lot, tops_by_words(lot, bottom))]
    return tuple(int(each * bottom * lot[-1]) for each in apart)


def worst_by_words(lot, bottom):
    return sorted(error if error > 0 else -error for error in errors_by_words(lot, bottom))[-1]


def records_by_words(lot, most):
    worsts = [worst_by_words(lot, bottom) for bottom in range(1, most + 1)]
    return [(at + 1, each) for at, each in enumerate(worsts) if all(each < lesser for lesser in worsts[:at])]


def columns_by_words(rule, lot):
    lots = run_by_words(rule, lot)
    tables = [table_by_words(rule, ahead) for ahead in lots[:-1]]
    products = list(itertools.accumulate(tables, multiplied_by_words))
    found = []
    for column in [column for product in products for column in zip(*product)]:
        if column[-1] != 0 and column not in found:
            found.append(column)
    return found


def with_bottom(lots):
    return [lot for lot in lots if lot[-1] != 0]


class Interface(Case):
    def test_arguments(self):
        for call in BY_BOTTOM:
            self.assert_interface(call, "lot", "bottom")
        self.assert_interface(records, "lot", "most")
        self.assert_interface(columns, "rule", "lot")


class Tops(Case):
    def assert_bottom(self, lot, bottom, of_tops, of_errors, of_worst):
        self.assert_told(of_tops, tops, lot, bottom)
        self.assert_told(of_errors, errors, lot, bottom)
        self.assert_told(of_worst, worst, lot, bottom)

    def test_by_hand(self):
        self.assert_bottom((12, 5), 1, (2,), (2,), 2)
        self.assert_bottom((12, 5), 2, (5,), (-1,), 1)
        self.assert_bottom((12, 5), 5, (12,), (0,), 0)
        self.assert_bottom((3, 4, 10), 3, (1, 1), (-1, 2), 2)
        self.assert_bottom((3, 4, 10), 10, (3, 4), (0, 0), 0)
        self.assert_bottom((0, 7, 5, 8), 3, (0, 3, 2), (0, -3, -1), 3)
        self.assert_bottom((0, 0, 0, 4), 7, (0, 0, 0), (0, 0, 0), 0)

    def test_of_two_as_near_the_lesser_one(self):
        self.assert_bottom((1, 2), 1, (0,), (1,), 1)
        self.assert_bottom((3, 2), 1, (1,), (1,), 1)
        self.assert_bottom((7, 2), 3, (10,), (1,), 1)
        self.assert_bottom((1, 3, 5, 6), 3, (0, 1, 2), (3, 3, 3), 3)

    def test_just_beside_the_half(self):
        self.assert_bottom((GREAT // 2, GREAT), 1, (0,), (GREAT // 2,), GREAT // 2)
        self.assert_bottom((GREAT // 2 + 1, GREAT), 1, (1,), (GREAT // 2 + 1 - GREAT,), GREAT // 2)

    def test_as_the_words_say(self):
        dice = random.Random(51)
        small = [(lot, bottom) for lot in small_lots(two=8, three=5, four=3) for bottom in range(1, 10)]
        drawn = [(lot, dice.choice((1, MOST, dice.randint(1, 99), dice.randint(1, MOST))))
                 for lot in some_lots(52, 60, 40, 10 ** 9, GREAT)]
        for lot, bottom in small + drawn:
            if lot[-1] != 0:
                self.assert_bottom(lot, bottom, tops_by_words(lot, bottom), errors_by_words(lot, bottom),
                                   worst_by_words(lot, bottom))

    def test_no_worst_is_more_than_half_of_the_last_number(self):
        for lot in with_bottom(some_lots(53, 60, 12, 10 ** 6, GREAT)):
            for bottom in (1, 2, 3, 17, MOST):
                self.assertLessEqual(2 * worst(lot, bottom), lot[-1])

    def test_bottoms_up_to_the_most_one(self):
        self.assert_bottom((3, 7), MOST, (428571428571,), (3,), 3)
        self.assert_bottom((GREAT, 1), MOST, (GREAT * MOST,), (0,), 0)
        for call in BY_BOTTOM:
            for bottom in (0, MOST + 1, -1, -MOST, True):
                self.assert_refused(NoNumber, call, (3, 7), bottom)


class Records(Case):
    def test_by_hand(self):
        self.assert_told([(1, 2), (2, 1), (5, 0)], records, (12, 5), 10)
        self.assert_told([(1, 2), (2, 1)], records, (12, 5), 4)
        self.assert_told([(1, 2)], records, (12, 5), 1)
        self.assert_told([(1, 0)], records, (10, 5), 1000)
        self.assert_told([(1, 0)], records, (0, 0, 0, 3), 30)
        self.assert_told([(1, 14159), (7, 887), (106, 854), (113, 33)], records, (314159, 100000), 1000)

    def test_a_like_worst_is_no_record(self):
        self.assert_told([(1, 1), (3, 0)], records, (1, 3), 9)

    def test_as_the_words_say(self):
        lots = list(small_lots(two=9, three=6, four=3)) + some_lots(54, 8, 50, 10 ** 6, GREAT)
        for lot in with_bottom(lots):
            self.assert_told(records_by_words(lot, 12), records, lot, 12)
        for lot in with_bottom(some_lots(55, 2, 10 ** 6, GREAT)):
            self.assert_told(records_by_words(lot, 150), records, lot, 150)

    def test_a_lesser_number_tells_those_up_to_it(self):
        for lot in with_bottom(some_lots(56, 3, 1000, GREAT)):
            told = records(lot, 1000)
            self.assertEqual(told[0][0], 1)
            self.assertEqual(told, sorted(told))
            for most in (1, 2, 5, 30, 999):
                self.assert_told([row for row in told if row[0] <= most], records, lot, most)

    def test_for_each_number_some_bottom_comes_near(self):
        for lot in with_bottom(some_lots(57, 20, 30, 10 ** 5, GREAT)):
            told = records(lot, 1000)
            for number in range(1, 1001):
                if number ** (len(lot) - 1) > 1000:
                    break
                near = [each for bottom, each in told if bottom <= number ** (len(lot) - 1)]
                self.assertLessEqual(number * near[-1], lot[-1])

    def test_the_bounds(self):
        self.assert_told([(1, 1), (2, 0)], records, (1, 2), 1000)
        for most in (0, 1001, -1, MOST, True):
            self.assert_refused(NoNumber, records, (1, 2), most)

    def test_the_told_list_is_the_askers_own(self):
        for lot in [(12, 5), (3, 4, 10), (314159, 100000), (0, 0, 0, 3)]:
            self.assert_own_list(records, lot, 200)


class Columns(Case):
    def test_by_hand(self):
        self.assert_told([(2, 1), (5, 2), (12, 5)], columns, "next", (12, 5))
        self.assert_told([(1, 2), (0, 1), (2, 5), (5, 12)], columns, "next", (5, 12))
        self.assert_told([(0, 1), (1, 2), (2, 5), (5, 12)], columns, "turn", (5, 12))
        self.assert_told([(1, 1)], columns, "next", (5, 5))
        self.assert_told([(1, 1), (0, 1)], columns, "all", (5, 5))
        self.assert_told([(0, 1), (1, 1)], columns, "turn", (5, 5))
        self.assert_told([(1, 1, 2), (0, 0, 1), (2, 3, 5), (6, 10, 15)], columns, "all", (6, 10, 15))

    def test_of_a_lot_that_has_ended(self):
        for rule in RULES:
            for lot in [(0, 3), (0, 0, 1), (0, 0, 0, GREAT)]:
                self.assert_told([], columns, rule, lot)

    def test_as_the_words_say(self):
        lots = list(small_lots(two=12, three=6, four=3)) + some_lots(58, 12, 60, 10 ** 9) + some_lots(59, 3, GREAT)
        for rule in RULES:
            for lot in with_bottom(lots):
                self.assert_told(columns_by_words(rule, lot), columns, rule, lot)

    def test_the_lot_through_its_common_is_among_them(self):
        for rule in RULES:
            for lot in with_bottom(small_lots(two=12, three=6, four=3)):
                found = columns(rule, lot)
                if not has_ended_by_words(lot):
                    self.assertIn(tuple(number // math.gcd(*lot) for number in lot), found)
                self.assertEqual(len(found), len(set(found)))
                self.assertTrue(all(column[-1] > 0 for column in found))

    def test_runs_of_many_steps(self):
        for rule in RULES:
            for lot in [slow_lot(size, 230) for size in (2, 3, 4)]:
                found = columns(rule, lot)
                self.assertEqual(len(found), len(set(found)))
                self.assertIn(lot, found)
                product = like_places(len(lot))
                expected = []
                for ahead in run_by_words(rule, lot)[:-1]:
                    product = multiplied_by_words(product, table_by_words(rule, ahead))
                    expected += [column for column in zip(*product) if column[-1] != 0]
                self.assertEqual(found, list(dict.fromkeys(expected)))

    def test_the_told_list_is_the_askers_own(self):
        for rule in RULES:
            for lot in [(12, 5), (6, 10, 15), (4, 6, 8, 10), (0, 7)]:
                self.assert_own_list(columns, rule, lot)


class Refused(Case):
    def test_what_is_no_lot(self):
        things = no_lots()
        for call in BY_NUMBER:
            for thing in things:
                self.assert_refused(NoLot, call, thing, 1)
        for at, thing in enumerate(things):
            self.assert_refused(NoLot, columns, RULES[at % 4], thing)

    def test_a_last_number_that_is_nought(self):
        for lot in BOTTOMLESS:
            for call in BY_NUMBER:
                self.assert_refused(NoBottom, call, lot, 1)
            for rule in RULES:
                self.assert_refused(NoBottom, columns, rule, lot)

    def test_what_is_no_number(self):
        for call in BY_BOTTOM:
            for thing in no_numbers(1, MOST):
                self.assert_refused(NoNumber, call, (12, 5), thing)
        for thing in no_numbers(1, 1000):
            self.assert_refused(NoNumber, records, (3, 4, 10), thing)

    def test_no_lot_goes_ahead_of_no_bottom_and_no_number(self):
        for call in BY_NUMBER:
            for lot in [[1, 0], (0, 0), (True, 0), (-1, 0), (5, False), (0,), (1, 2, 3, 4, 0), None, "1:0"]:
                for number in (1, 0, None, True, "x"):
                    self.assert_refused(NoLot, call, lot, number)

    def test_no_bottom_goes_ahead_of_no_number(self):
        for call in BY_NUMBER:
            for lot in BOTTOMLESS:
                for number in (0, -1, MOST + 1, None, True, "x", [1]):
                    self.assert_refused(NoBottom, call, lot, number)

    def test_what_is_no_rule(self):
        for thing in no_rules():
            self.assert_refused(NoRule, columns, thing, (12, 5))

    def test_no_rule_goes_ahead_of_no_lot_and_no_bottom(self):
        for thing in no_lots()[::9] + BOTTOMLESS:
            self.assert_refused(NoRule, columns, "first", thing)
            self.assert_refused(NoRule, columns, thing, thing)

    def test_no_lot_goes_ahead_of_no_bottom_in_columns(self):
        for rule in RULES:
            for lot in [[1, 0], (0, 0), (True, 0), (-1, 0), (5, False), (0,), (1, 2, 3, 4, 0), None]:
                self.assert_refused(NoLot, columns, rule, lot)


if __name__ == "__main__":
    unittest.main()
