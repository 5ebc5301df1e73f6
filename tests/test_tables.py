import itertools
import random
import unittest

from drawndown.errors import NoTable, NotAlike, NotFair, NoTuple
from drawndown.tables import is_table, multiplied, one_number, times, turned_back
from things import (
    GREAT, OTHER_KINDS, Case, anything, is_table_by_words, is_tuple_by_words, like_places,
    multiplied_by_words, one_number_by_words, some_fair_table, some_table,
)

TWO = ((2, 3), (5, 8))
THREE = ((1, 4, 0), (0, 1, 0), (2, 7, 1))
FOUR = ((0, 0, 0, 1), (1, 0, 0, 5), (0, 1, 0, 3), (0, 0, 1, 2))
UNFAIR = ((2, 3), (4, 5))
BENT = ((1, 2), (3, 4, 5))
TABLES = [TWO, THREE, FOUR, UNFAIR, ((0, 0), (0, 0)), ((GREAT, -GREAT), (-1, 1))]
SIZES = (2, 3, 4)


def no_tables():
    return [thing for thing in anything(*TABLES) if not is_table_by_words(thing)] + OTHER_KINDS


class Interface(Case):
    def test_arguments(self):
        self.assert_interface(is_table, "thing")
        self.assert_interface(times, "table", "numbers")
        self.assert_interface(multiplied, "one", "other")
        self.assert_interface(one_number, "table")
        self.assert_interface(turned_back, "table")


class IsTable(Case):
    def test_sizes_from_two_to_four(self):
        for size in range(8):
            self.assert_told(2 <= size <= 4, is_table, ((3,) * size,) * size)

    def test_each_line_is_as_long_as_there_are_lines(self):
        for lines, long in itertools.product(range(1, 7), repeat=2):
            self.assert_told(lines == long and lines in SIZES, is_table, ((1,) * long,) * lines)

    def test_one_line_too_long_or_too_short(self):
        for good in (TWO, THREE, FOUR):
            for at in range(len(good)):
                self.assert_told(False, is_table, good[:at] + (good[at] + (1,),) + good[at + 1:])
                self.assert_told(False, is_table, good[:at] + (good[at][1:],) + good[at + 1:])

    def test_lists_are_no_lines_and_no_tables(self):
        for good in (TWO, THREE, FOUR):
            self.assert_told(False, is_table, list(good))
            for at in range(len(good)):
                self.assert_told(False, is_table, good[:at] + (list(good[at]),) + good[at + 1:])

    def test_numbers_of_any_sign_and_noughts(self):
        for good in [((0, 0), (0, 0)), ((-1, 2), (3, -4)), ((GREAT, -GREAT), (-GREAT, GREAT))]:
            self.assert_told(True, is_table, good)

    def test_truths_are_no_whole_numbers(self):
        for good, truth in itertools.product((TWO, THREE, FOUR), (True, False)):
            for at, place in itertools.product(range(len(good)), repeat=2):
                line = good[at][:place] + (truth,) + good[at][place + 1:]
                self.assert_told(False, is_table, good[:at] + (line,) + good[at + 1:])

    def test_of_anything(self):
        answers = []
        for thing in anything(*TABLES):
            answers.append(is_table_by_words(thing))
            self.assert_told(answers[-1], is_table, thing)
        self.assertGreater(answers.count(True), 50)
        self.assertGreater(answers.count(False), 3000)

    def test_of_other_kinds(self):
        for thing in OTHER_KINDS:
            self.assert_told(False, is_table, thing)


class Times(Case):
    def test_ordinary(self):
        self.assert_told((31, 82), times, TWO, (2, 9))
        self.assert_told((9, 2, 17), times, THREE, (1, 2, 1))
        self.assert_told((4, 21, 14, 11), times, FOUR, (1, 2, 3, 4))

    def test_numbers_of_any_sign_and_noughts(self):
        self.assert_told((-1, -3), times, TWO, (1, -1))
        self.assert_told((0, 0), times, TWO, (0, 0))

    def test_like_places_leave_the_tuple_as_it_is(self):
        for size in SIZES:
            numbers = (5, -7, GREAT, 0)[:size]
            self.assert_told(numbers, times, like_places(size), numbers)

    def test_great_numbers(self):
        dice = random.Random(5)
        for size in SIZES * 20:
            table = some_table(dice, size, GREAT)
            numbers = tuple(dice.randint(-GREAT, GREAT) for place in range(size))
            wanted = tuple(sum(line[at] * numbers[at] for at in range(size)) for line in table)
            self.assert_told(wanted, times, table, numbers)

    def test_no_table_is_refused(self):
        for thing in no_tables():
            self.assert_refused(NoTable, times, thing, (1, 2))

    def test_no_tuple_is_refused(self):
        for table in (TWO, THREE, FOUR):
            for thing in anything((1, 2), (0, -5, 3), (1, 2, 3, 4), TWO) + OTHER_KINDS:
                if not is_tuple_by_words(thing, len(table)):
                    self.assert_refused(NoTuple, times, table, thing)

    def test_the_edges_of_the_tuple(self):
        for thing in [(1,), (1, 2, 3), (), [1, 2], (True, 2), (2, False), (1, None), ((1, 2), (3, 4)), 5, "12", None]:
            self.assert_refused(NoTuple, times, TWO, thing)

    def test_no_table_goes_ahead_of_no_tuple(self):
        for thing in no_tables():
            self.assert_refused(NoTable, times, thing, [1, 2])
        self.assert_refused(NoTable, times, BENT, (1, 2, 3, 4, 5))
        self.assert_refused(NoTable, times, None, None)


class Multiplied(Case):
    def test_ordinary(self):
        self.assert_told(((3, 1), (7, 3)), multiplied, ((1, 2), (3, 4)), ((1, 1), (1, 0)))
        self.assert_told(((4, 6), (1, 2)), multiplied, ((1, 1), (1, 0)), ((1, 2), (3, 4)))

    def test_columns_are_the_first_one_times_the_columns_of_the_other_one(self):
        dice = random.Random(6)
        for size in SIZES * 10:
            one, other = some_table(dice, size, 9), some_table(dice, size, 9)
            product = self.told(multiplied, one, other)
            for at in range(size):
                column = tuple(line[at] for line in other)
                self.assertEqual(tuple(line[at] for line in product), times(one, column))

    def test_great_numbers(self):
        dice = random.Random(7)
        for size in SIZES * 20:
            one, other = some_table(dice, size, GREAT), some_table(dice, size, GREAT)
            self.assert_told(multiplied_by_words(one, other), multiplied, one, other)

    def test_what_was_told_may_be_handed_in_again(self):
        table = ((GREAT, 1), (1, 0))
        wanted = table
        for count in range(7):
            table, wanted = multiplied(table, table), multiplied_by_words(wanted, wanted)
            self.assertEqual(table, wanted)
            self.assertIs(is_table(table), True)

    def test_like_places_leave_the_table_as_it_is(self):
        for table in (TWO, THREE, FOUR):
            self.assert_told(table, multiplied, table, like_places(len(table)))
            self.assert_told(table, multiplied, like_places(len(table)), table)

    def test_no_table_is_refused_at_either_place(self):
        for thing in no_tables():
            self.assert_refused(NoTable, multiplied, thing, TWO)
            self.assert_refused(NoTable, multiplied, THREE, thing)
            self.assert_refused(NoTable, multiplied, thing, thing)

    def test_unlike_sizes_are_refused(self):
        for one, other in itertools.permutations((TWO, THREE, FOUR), 2):
            self.assert_refused(NotAlike, multiplied, one, other)

    def test_no_table_goes_ahead_of_not_alike(self):
        five = ((1,) * 5,) * 5
        for thing in (five, ((1,),), BENT, (), [list(line) for line in THREE], (1, 2, 3)):
            self.assert_refused(NoTable, multiplied, FOUR, thing)
            self.assert_refused(NoTable, multiplied, thing, FOUR)


class OneNumber(Case):
    def test_ordinary(self):
        self.assert_told(1, one_number, TWO)
        self.assert_told(-2, one_number, UNFAIR)
        self.assert_told(1, one_number, THREE)
        self.assert_told(-1, one_number, FOUR)
        self.assert_told(0, one_number, ((1, 2), (2, 4)))
        self.assert_told(-306, one_number, ((6, 1, 1), (4, -2, 5), (2, 8, 7)))

    def test_orders_of_columns(self):
        for size in SIZES:
            for order in itertools.permutations(range(size)):
                table = tuple(tuple(int(column == at) for column in range(size)) for at in order)
                odd = sum(1 for one, other in itertools.combinations(order, 2) if one > other) % 2
                self.assert_told(-1 if odd else 1, one_number, table)

    def test_as_the_words_say(self):
        dice = random.Random(8)
        for size in SIZES * 40:
            table = some_table(dice, size, 12)
            self.assert_told(one_number_by_words(table), one_number, table)

    def test_great_numbers(self):
        dice = random.Random(9)
        for size in SIZES * 20:
            table = some_table(dice, size, GREAT)
            self.assert_told(one_number_by_words(table), one_number, table)

    def test_that_of_a_product_is_the_product(self):
        dice = random.Random(10)
        for size in SIZES * 10:
            one, other = some_table(dice, size, 20), some_table(dice, size, 20)
            self.assertEqual(one_number(multiplied(one, other)), one_number(one) * one_number(other))

    def test_no_table_is_refused(self):
        for thing in no_tables():
            self.assert_refused(NoTable, one_number, thing)


class TurnedBack(Case):
    def assert_turned(self, table):
        back = self.told(turned_back, table)
        self.assertTrue(is_table_by_words(back), back)
        self.assertEqual(multiplied_by_words(back, table), like_places(len(table)))
        self.assertEqual(multiplied_by_words(table, back), like_places(len(table)))
        self.assertEqual(multiplied(back, table), like_places(len(table)))
        self.assertEqual(multiplied(table, back), like_places(len(table)))
        self.assertEqual(one_number(back), one_number(table))
        self.assertEqual(turned_back(back), table)

    def test_ordinary(self):
        self.assert_told(((8, -3), (-5, 2)), turned_back, TWO)
        self.assert_told(((-7, 3), (5, -2)), turned_back, ((2, 3), (5, 7)))
        self.assert_told(((1, -4, 0), (0, 1, 0), (-2, 1, 1)), turned_back, THREE)
        self.assert_told(((-5, 1, 0, 0), (-3, 0, 1, 0), (-2, 0, 0, 1), (1, 0, 0, 0)), turned_back, FOUR)

    def test_like_places_stay(self):
        for size in SIZES:
            self.assert_told(like_places(size), turned_back, like_places(size))

    def test_all_small_tables_of_two_lines(self):
        for a, b, c, d in itertools.product(range(-3, 4), repeat=4):
            table = ((a, b), (c, d))
            if a * d - b * c in (1, -1):
                self.assert_turned(table)
            else:
                self.assert_refused(NotFair, turned_back, table)

    def test_either_way_about(self):
        dice = random.Random(11)
        signs = []
        for size in SIZES * 40:
            table = some_fair_table(dice, size, 9)
            signs.append((size, one_number(table)))
            self.assert_turned(table)
        self.assertEqual(len(set(signs)), 6)

    def test_great_numbers(self):
        dice = random.Random(12)
        for size in SIZES * 20:
            self.assert_turned(some_fair_table(dice, size, 10 ** 49))
        self.assert_turned(((1, GREAT), (0, 1)))
        self.assert_turned(((GREAT, GREAT - 1), (1, 1)))

    def test_it_undoes_the_table(self):
        dice = random.Random(13)
        for size in SIZES * 10:
            table = some_fair_table(dice, size, 30)
            numbers = tuple(dice.randint(-99, 99) for place in range(size))
            self.assertEqual(times(turned_back(table), times(table, numbers)), numbers)
            self.assertEqual(times(table, times(turned_back(table), numbers)), numbers)

    def test_what_is_not_fair_is_refused(self):
        for table in [UNFAIR, ((1, 2), (2, 4)), ((0, 0), (0, 0)), ((2, 0), (0, 1)), ((1, 0), (0, -2)),
                      ((1, 1, 1), (1, 1, 1), (1, 1, 1)), ((2, 0, 0), (0, 1, 0), (0, 0, 1)),
                      ((1, 2, 3, 4), (5, 6, 7, 8), (9, 1, 2, 3), (4, 5, 6, 7)), ((GREAT, 0), (0, GREAT))]:
            self.assertNotIn(one_number_by_words(table), (1, -1))
            self.assert_refused(NotFair, turned_back, table)

    def test_no_table_is_refused(self):
        for thing in no_tables():
            self.assert_refused(NoTable, turned_back, thing)

    def test_no_table_goes_ahead_of_not_fair(self):
        for thing in [((2, 0), (0, 2, 0)), ((2, 0), [0, 2]), ((True, 0), (0, 2)), ((2,),), [[2, 0], [0, 2]]]:
            self.assert_refused(NoTable, turned_back, thing)


if __name__ == "__main__":
    unittest.main()
