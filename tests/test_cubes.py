import random
import unittest

from cube_things import (
    NOTHING, ROOTS, no_cubes, no_roots, power_by_words, product_by_words, sign_by_words, some_cube,
    whole_part_by_words,
)
from drawndown.cubes import cube_product, cube_sign, cube_sum, whole_part
from drawndown.errors import NoCube, NoRoot
from things import GREAT, Case

OF_TWO = (cube_sum, cube_product)
OF_ONE = (cube_sign, whole_part)
MOST = 10 ** 40


def whole_below(root):
    """The greatest whole number that is no greater than the third root."""
    return max(number for number in range(1, 5) if number ** 3 <= root)


class Interface(Case):
    def test_arguments(self):
        for call in OF_TWO:
            self.assert_interface(call, "root", "one", "other")
        for call in OF_ONE:
            self.assert_interface(call, "root", "number")


class SumAndProduct(Case):
    def test_by_hand(self):
        self.assert_told((5, -3, 7), cube_sum, 2, (1, -5, 3), (4, 2, 4))
        self.assert_told(NOTHING, cube_sum, 50, (1, -5, 3), (-1, 5, -3))
        self.assert_told((0, 0, 1), cube_product, 2, (0, 1, 0), (0, 1, 0))
        self.assert_told((2, 0, 0), cube_product, 2, (0, 1, 0), (0, 0, 1))
        self.assert_told((0, 5, 0), cube_product, 5, (0, 0, 1), (0, 0, 1))
        self.assert_told((1, 0, 0), cube_product, 2, (-1, 1, 0), (1, 1, 1))
        self.assert_told((193, 139, 28), cube_product, 7, (1, 2, 3), (4, 5, 6))
        self.assert_told(NOTHING, cube_product, 7, (1, 2, 3), NOTHING)

    def test_as_the_words_say(self):
        dice = random.Random(81)
        for root in ROOTS:
            for most in (3, MOST, GREAT):
                one, other = some_cube(dice, most), some_cube(dice, most)
                self.assert_told(tuple(map(sum, zip(one, other))), cube_sum, root, one, other)
                self.assert_told(product_by_words(root, one, other), cube_product, root, one, other)

    def test_three_times_by_itself_the_third_root_is_the_root(self):
        for root in ROOTS:
            t = (0, 1, 0)
            self.assert_told((root, 0, 0), cube_product, root, cube_product(root, t, t), t)


class SignAndWholePart(Case):
    def assert_number(self, root, number):
        self.assert_told(sign_by_words(root, number), cube_sign, root, number)
        self.assert_told(whole_part_by_words(root, number), whole_part, root, number)

    def test_by_hand(self):
        for number, sign, whole in [
            (NOTHING, 0, 0), ((1, 0, 0), 1, 1), ((-1, 0, 0), -1, -1), ((0, 1, 0), 1, 1), ((0, -1, 0), -1, -2),
            ((0, 0, 1), 1, 1), ((0, 0, -1), -1, -2), ((-1, 1, 0), 1, 0), ((1, -1, 0), -1, -1), ((0, -5, 4), 1, 0),
            ((0, 5, -4), -1, -1), ((7, 0, 0), 1, 7), ((-7, 0, 0), -1, -7), ((5, 3, 2), 1, 11), ((-5, -3, -2), -1, -12),
        ]:
            self.assert_told(sign, cube_sign, 2, number)
            self.assert_told(whole, whole_part, 2, number)

    def test_nothing_and_whole_numbers(self):
        for root in ROOTS:
            self.assert_told(0, cube_sign, root, NOTHING)
            self.assert_told(0, whole_part, root, NOTHING)
            for whole in (1, 2, 10 ** 39 + 1, GREAT):
                self.assert_told(1, cube_sign, root, (whole, 0, 0))
                self.assert_told(-1, cube_sign, root, (-whole, 0, 0))
                self.assert_told(whole, whole_part, root, (whole, 0, 0))
                self.assert_told(-whole, whole_part, root, (-whole, 0, 0))

    def test_all_small_numbers(self):
        for root in ROOTS:
            for at in range(343):
                self.assert_number(root, (at // 49 - 3, at // 7 % 7 - 3, at % 7 - 3))

    def test_drawn_numbers_of_all_signs(self):
        dice = random.Random(82)
        for root in ROOTS:
            for most in (20, 10 ** 9, MOST, MOST, GREAT):
                self.assert_number(root, some_cube(dice, most))

    def test_just_above_and_just_below_whole_numbers(self):
        dice = random.Random(83)
        for root in ROOTS:
            for count in range(4):
                number = some_cube(dice, MOST)
                whole = whole_part_by_words(root, number)
                for beside in (whole - 1, whole, whole + 1, whole + 2):
                    self.assert_number(root, (number[0] - beside, number[1], number[2]))

    def test_numbers_that_come_very_near_to_whole_numbers(self):
        # What is left of the third root, less a whole number, many times by itself, is hardly anything.
        for root in ROOTS:
            for less in (whole_below(root), whole_below(root) + 1):
                many = 1
                while max(map(abs, power_by_words(root, (-less, 1, 0), many))) < MOST:
                    a, b, c = power_by_words(root, (-less, 1, 0), many)
                    sign = 1 if less == whole_below(root) or many % 2 == 0 else -1
                    for whole in (0, 1, -1, 10 ** 39):
                        below = whole if sign > 0 else whole - 1
                        self.assert_told(below, whole_part, root, (a + whole, b, c))
                        self.assert_told(2 * whole - 1 - below, whole_part, root, (whole - a, -b, -c))
                    self.assert_told(sign, cube_sign, root, (a, b, c))
                    self.assert_told(-sign, cube_sign, root, (-a, -b, -c))
                    many += 5

    def test_the_sign_of_a_product(self):
        dice = random.Random(84)
        for root in ROOTS:
            one, other = some_cube(dice, 4), some_cube(dice, 4)
            product = cube_product(root, one, other)
            self.assertEqual(cube_sign(root, product), cube_sign(root, one) * cube_sign(root, other))

    def test_what_was_told_may_be_handed_in_again(self):
        number = (3, -7, 2)
        for count in range(9):
            number = cube_product(7, number, number)
        self.assertGreater(len(str(abs(number[0]))), 300)
        self.assertEqual(cube_sign(7, number), 1)
        low = whole_part(7, number)
        self.assertEqual(cube_sign(7, (number[0] - low,) + number[1:]), 1)
        self.assertEqual(cube_sign(7, (number[0] - low - 1,) + number[1:]), -1)


class Roots(Case):
    def test_each_root_that_is_no_third_power(self):
        for root in range(2, 51):
            if root not in (8, 27):
                self.assert_told(1, cube_sign, root, (0, 1, 0))
                self.assert_told(whole_below(root), whole_part, root, (0, 1, 0))
                self.assert_told((0, root, 0), cube_product, root, (0, 0, 1), (0, 0, 1))
                self.assert_told((3, 5, 7), cube_sum, root, (1, 2, 3), (2, 3, 4))

    def test_eight_and_twenty_seven_and_what_lies_beyond(self):
        for root in (8, 27, 1, 51, 64, 0, -2, True):
            for call in OF_TWO:
                self.assert_refused(NoRoot, call, root, (1, 2, 3), (4, 5, 6))
            for call in OF_ONE:
                self.assert_refused(NoRoot, call, root, (1, 2, 3))


class Refused(Case):
    def test_what_is_no_root(self):
        for thing in no_roots():
            for call in OF_TWO:
                self.assert_refused(NoRoot, call, thing, (1, 2, 3), (4, 5, 6))
            for call in OF_ONE:
                self.assert_refused(NoRoot, call, thing, (1, 2, 3))

    def test_what_is_no_cube_number(self):
        for thing in no_cubes():
            for call in OF_TWO:
                self.assert_refused(NoCube, call, 2, thing, (4, 5, 6))
                self.assert_refused(NoCube, call, 50, (4, 5, 6), thing)
                self.assert_refused(NoCube, call, 7, thing, thing)
            for call in OF_ONE:
                self.assert_refused(NoCube, call, 3, thing)

    def test_no_root_goes_ahead_of_no_cube(self):
        for thing in [(1, 2), [1, 2, 3], (1, 2, True), (1, 2, 3, 4), 5, None, "1"]:
            for root in (8, 27, 1, 51, True, None, "2", (2,)):
                for call in OF_TWO:
                    self.assert_refused(NoRoot, call, root, thing, (4, 5, 6))
                    self.assert_refused(NoRoot, call, root, (4, 5, 6), thing)
                for call in OF_ONE:
                    self.assert_refused(NoRoot, call, root, thing)


if __name__ == "__main__":
    unittest.main()
