import itertools
import math
import random
import unittest

from drawndown.errors import NoLot
from drawndown.lots import common, has_ended, is_lot
from things import GREAT, OTHER_KINDS, Case, anything, is_lot_by_words

LOTS = [(12, 5), (12, 0, 5), (6, 10, 15), (4, 6, 8, 10), (0, 0, 0, 3), (GREAT, GREAT - 1), (1, 0)]


class Interface(Case):
    def test_arguments(self):
        self.assert_interface(is_lot, "thing")
        self.assert_interface(common, "lot")
        self.assert_interface(has_ended, "lot")


class IsLot(Case):
    def test_sizes_from_two_to_four(self):
        for size in range(8):
            self.assert_told(2 <= size <= 4, is_lot, (3,) * size)

    def test_noughts_may_stand_in_it_but_not_alone(self):
        self.assert_told(True, is_lot, (0, 7))
        self.assert_told(True, is_lot, (0, 0, 0, 7))
        self.assert_told(True, is_lot, (7, 0, 0))
        for size in (2, 3, 4):
            self.assert_told(False, is_lot, (0,) * size)

    def test_no_number_is_below_nought(self):
        for lot in [(-1, 5), (5, -1), (5, 0, -1), (1, 2, -3, 4), (-2, -3), (-GREAT, GREAT)]:
            self.assert_told(False, is_lot, lot)

    def test_truths_are_no_whole_numbers(self):
        for lot in [(True, 5), (5, True), (5, False), (True, False), (3, 4, True), (3, 4, 5, False)]:
            self.assert_told(False, is_lot, lot)

    def test_a_list_of_numbers_is_none(self):
        for thing in [[12, 5], [1, 2, 3], {0: 1, 1: 2}, "12:5", ((1, 2), (3, 4)), ([1], [2]), ("1", "2")]:
            self.assert_told(False, is_lot, thing)

    def test_great_numbers(self):
        self.assert_told(True, is_lot, (GREAT, 0, GREAT, 1))

    def test_of_anything(self):
        answers = []
        for thing in anything(*LOTS):
            answers.append(is_lot_by_words(thing))
            self.assert_told(answers[-1], is_lot, thing)
        self.assertGreater(answers.count(True), 50)
        self.assertGreater(answers.count(False), 3000)

    def test_of_other_kinds(self):
        for thing in OTHER_KINDS:
            self.assert_told(False, is_lot, thing)


class Common(Case):
    def test_ordinary(self):
        self.assert_told(4, common, (12, 8))
        self.assert_told(1, common, (12, 5))
        self.assert_told(1, common, (6, 10, 15))
        self.assert_told(2, common, (4, 6, 8, 10))
        self.assert_told(7, common, (7, 7))

    def test_noughts_are_divided_by_all(self):
        self.assert_told(5, common, (0, 5))
        self.assert_told(5, common, (5, 0))
        self.assert_told(9, common, (0, 0, 9))
        self.assert_told(6, common, (0, 12, 0, 18))

    def test_all_small_lots(self):
        for size in (2, 3, 4):
            for lot in itertools.product(range(7), repeat=size):
                if any(lot):
                    self.assert_told(math.gcd(*lot), common, lot)

    def test_great_numbers(self):
        dice = random.Random(4)
        for count in range(60):
            shared = dice.randrange(1, 10 ** 50)
            lot = tuple(shared * dice.randrange(10 ** 50) for place in range(2 + count % 3))
            self.assert_told(math.gcd(*lot), common, lot)
        self.assert_told(GREAT, common, (GREAT, 0, GREAT))
        self.assert_told(1, common, (GREAT, GREAT - 1))


class HasEnded(Case):
    def test_just_one_that_is_not_nought(self):
        for lot in [(5, 0), (0, 5), (0, 0, 1), (0, 3, 0, 0), (GREAT, 0, 0, 0)]:
            self.assert_told(True, has_ended, lot)

    def test_more_than_one(self):
        for lot in [(5, 5), (1, 1, 0), (0, 2, 0, 4), (1, 2, 3, 4), (GREAT, GREAT)]:
            self.assert_told(False, has_ended, lot)

    def test_all_small_lots(self):
        for size in (2, 3, 4):
            for lot in itertools.product(range(4), repeat=size):
                if any(lot):
                    self.assert_told(lot.count(0) == size - 1, has_ended, lot)


class Refused(Case):
    def test_what_is_no_lot(self):
        things = [thing for thing in anything(*LOTS) if not is_lot_by_words(thing)] + OTHER_KINDS
        for call in (common, has_ended):
            for thing in things:
                self.assert_refused(NoLot, call, thing)

    def test_the_edges(self):
        for call in (common, has_ended):
            for thing in [(5,), (1, 2, 3, 4, 5), (), (0, 0), (0, 0, 0, 0), (3, -1), (True, 2), (2, False), [3, 4], 7]:
                self.assert_refused(NoLot, call, thing)


if __name__ == "__main__":
    unittest.main()
