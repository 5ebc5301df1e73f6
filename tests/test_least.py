import itertools
import math
import random
import unittest

from drawndown.errors import NoLot, NoNumber, TooMany
from drawndown.least import by_length, by_weight, first_clash, has_none, is_clash, least_length, least_weight
from things import GREAT, Case, anything, is_tuple_by_words, no_lots, no_numbers, small_lots, some_lots

OF_LOT = (least_weight, least_length, by_weight, by_length)
TOO_GREAT = [(1001, 1), (0, 1001), (1, 1001, 2), (5, 0, 0, 1001), (1001, 1001), (GREAT, GREAT, GREAT)]


def weight_by_words(line):
    return sorted(number if number > 0 else -number for number in line)[-1]


def length_by_words(line):
    return sum(number if number > 0 else -number for number in line)


def solved(lot, line, most):
    """The relations that begin with the line and end with a number of either sign up to the most one."""
    rest = sum(one * other for one, other in zip(line, lot))
    if lot[-1] == 0:
        lasts = range(-most, most + 1) if rest == 0 else []
    else:
        lasts = [-rest // lot[-1]] if rest % lot[-1] == 0 else []
    return [line + (last,) for last in lasts if abs(last) <= most and (any(line) or last != 0)]


def by_weight_by_words(lot):
    """Weight by weight, each number but the last one gone through, the last one solved."""
    for most in itertools.count(1):
        lines = itertools.product(range(-most, most + 1), repeat=len(lot) - 1)
        found = sorted(whole for line in lines for whole in solved(lot, line, most))
        if found:
            return found


def lines_of_length(size, most):
    """All lines of so many numbers of a length up to the most one."""
    if size == 0:
        return [()]
    firsts = range(-most, most + 1)
    return [(first,) + rest for first in firsts for rest in lines_of_length(size - 1, most - abs(first))]


def by_length_by_words(lot):
    most, found = 1, []
    while not found:
        most *= 2
        lines = lines_of_length(len(lot) - 1, most)
        found = [whole for line in lines for whole in solved(lot, line, most - length_by_words(line))]
    least = min(map(length_by_words, found))
    return sorted(line for line in found if length_by_words(line) == least)


def takings(lot, number):
    """All ways to take the lot's numbers, rising."""
    return list(itertools.product(range(number + 1), repeat=len(lot)))


def sum_of(taking, lot):
    return sum(many * number for many, number in zip(taking, lot))


def first_clash_by_words(lot, number):
    """By the rising pairs of all takings; the other side is looked for only where the sum comes twice."""
    ways = {}
    for taking in takings(lot, number):
        ways.setdefault(sum_of(taking, lot), []).append(taking)
    for taking in takings(lot, number):
        same = [other for other in ways[sum_of(taking, lot)] if other > taking]
        if same:
            return taking, min(same)
    return None


def is_clash_by_words(lot, number, thing):
    if type(thing) is not tuple or len(thing) != 2:
        return False
    one, other = thing
    for side in thing:
        if not is_tuple_by_words(side, len(lot)) or any(part not in range(number + 1) for part in side):
            return False
    return one != other and sorted(thing)[0] == one and sum_of(one, lot) == sum_of(other, lot)


def lots_of_all_sizes():
    return list(small_lots(two=12, three=6, four=3)) + some_lots(71, 12, 30, 1000)


class Interface(Case):
    def test_arguments(self):
        for call in OF_LOT:
            self.assert_interface(call, "lot")
        self.assert_interface(has_none, "lot", "number")
        self.assert_interface(is_clash, "lot", "number", "thing")
        self.assert_interface(first_clash, "lot", "number")


class Least(Case):
    def assert_weight(self, weight, lines, lot):
        self.assert_told(weight, least_weight, lot)
        self.assert_told(lines, by_weight, lot)

    def assert_length(self, length, lines, lot):
        self.assert_told(length, least_length, lot)
        self.assert_told(lines, by_length, lot)

    def test_by_hand(self):
        self.assert_weight(12, [(-5, 12), (5, -12)], (12, 5))
        self.assert_length(17, [(-5, 12), (5, -12)], (12, 5))
        self.assert_weight(1, [(-1, 1), (1, -1)], (7, 7))
        self.assert_weight(1, [(-1, -1, 1), (1, 1, -1)], (2, 3, 5))
        self.assert_length(3, [(-1, -1, 1), (1, 1, -1)], (2, 3, 5))
        self.assert_weight(3, [(0, -3, 2), (0, 3, -2)], (6, 10, 15))
        self.assert_length(5, [(-3, 2), (3, -2)], (400, 600))

    def test_the_lightest_need_not_be_the_shortest(self):
        self.assert_weight(2, [(-2, -2, 1), (2, 2, -1)], (1, 3, 8))
        self.assert_length(4, [(-3, 1, 0), (3, -1, 0)], (1, 3, 8))
        self.assert_weight(1, [(-1, 1, 1, -1), (1, -1, -1, 1)], (3, 4, 5, 6))
        self.assert_length(3, [(-2, 0, 0, 1), (2, 0, 0, -1)], (3, 4, 5, 6))

    def test_lots_with_noughts(self):
        self.assert_weight(1, [(-1, 0), (1, 0)], (0, 5))
        self.assert_length(1, [(0, -1), (0, 1)], (5, 0))
        self.assert_weight(1, [(0, -1, 0), (0, 1, 0)], (12, 0, 5))
        self.assert_length(1, [(0, -1, 0), (0, 1, 0)], (12, 0, 5))
        self.assert_length(1, [(-1, 0, 0), (0, -1, 0), (0, 1, 0), (1, 0, 0)], (0, 0, 9))
        lines = [line for line in itertools.product((-1, 0, 1), repeat=3) if any(line)]
        self.assert_weight(1, [line + (0,) for line in lines], (0, 0, 0, 1000))
        self.assert_weight(1, [(0,) + line for line in lines], (1000, 0, 0, 0))
        for lot in small_lots(two=9, three=5, four=3):
            if 0 in lot:
                self.assertEqual((least_weight(lot), least_length(lot)), (1, 1))

    def test_lots_of_two_great_numbers(self):
        self.assert_weight(1000, [(-1000, 999), (1000, -999)], (999, 1000))
        self.assert_length(1999, [(-1000, 999), (1000, -999)], (999, 1000))
        dice = random.Random(72)
        for count in range(60):
            one, other = dice.randint(1, 1000), dice.randint(900, 1000)
            shared = math.gcd(one, other)
            low, high = one // shared, other // shared
            self.assert_weight(max(low, high), [(-high, low), (high, -low)], (one, other))
            self.assert_length(low + high, [(-high, low), (high, -low)], (one, other))

    def test_as_the_words_say(self):
        for lot in lots_of_all_sizes():
            by_words = by_weight_by_words(lot)
            self.assert_weight(weight_by_words(by_words[0]), by_words, lot)
            by_words = by_length_by_words(lot)
            self.assert_length(length_by_words(by_words[0]), by_words, lot)

    def test_near_to_the_bound(self):
        dice = random.Random(73)
        lots = [tuple(dice.randint(900, 1000) for place in range(size)) for size in (3, 4) for count in range(12)]
        for lot in lots + [(1000, 999, 997), (1000, 999, 998, 997), (1000, 1000, 1000, 999)]:
            by_words = by_weight_by_words(lot)
            self.assert_weight(weight_by_words(by_words[0]), by_words, lot)
            by_words = by_length_by_words(lot)
            self.assert_length(length_by_words(by_words[0]), by_words, lot)

    def test_the_lists_rise_and_have_each_turned_one_too(self):
        for lot in lots_of_all_sizes():
            for call in (by_weight, by_length):
                told = call(lot)
                self.assertEqual(told, sorted(set(told)))
                for line in told:
                    self.assertIn(tuple(-number for number in line), told)
                    self.assertEqual(sum_of(line, lot), 0)
                    self.assertTrue(any(line))

    def test_the_told_list_is_the_askers_own(self):
        for lot in [(12, 5), (2, 3, 5), (0, 0, 7), (4, 6, 8, 10)]:
            self.assert_own_list(by_weight, lot)
            self.assert_own_list(by_length, lot)


class HasNone(Case):
    def test_by_hand(self):
        self.assert_told(True, has_none, (8, 7), 7)
        self.assert_told(False, has_none, (8, 7), 8)
        self.assert_told(True, has_none, (9, 8), 8)
        self.assert_told(True, has_none, (1, 9, 81, 729), 8)
        self.assert_told(False, has_none, (1, 8, 64, 512), 8)
        self.assert_told(True, has_none, (1000, 999), 8)
        self.assert_told(False, has_none, (1000, 1000), 1)
        self.assert_told(False, has_none, (0, 1000), 1)

    def test_just_where_all_sums_are_unlike(self):
        lots = list(small_lots(two=12, three=5, four=2)) + some_lots(74, 5, 60, 1000)
        for lot in lots:
            for number in (1, 2, 3, 8) if len(lot) < 4 else (1, 2, 4):
                sums = [sum_of(taking, lot) for taking in takings(lot, number)]
                self.assert_told(len(set(sums)) == len(sums), has_none, lot, number)

    def test_just_where_the_least_weight_is_more(self):
        for lot in lots_of_all_sizes():
            for number in range(1, 9):
                self.assertIs(has_none(lot, number), least_weight(lot) > number)


class Clash(Case):
    def test_by_hand(self):
        self.assert_told(True, is_clash, (2, 3, 5), 1, ((0, 0, 1), (1, 1, 0)))
        self.assert_told(True, is_clash, (2, 3, 5), 8, ((1, 2, 8), (4, 0, 8)))
        self.assert_told(True, is_clash, (8, 7), 8, ((0, 8), (7, 0)))
        self.assert_told(True, is_clash, (0, 7), 8, ((0, 5), (8, 5)))
        self.assert_told(False, is_clash, (2, 3, 5), 1, ((0, 0, 1), (1, 0, 0)))

    def test_what_is_none(self):
        lot, number = (2, 3, 5), 3
        good = ((0, 0, 1), (1, 1, 0))
        self.assert_told(True, is_clash, lot, number, good)
        for thing in [
            ((1, 1, 0), (0, 0, 1)), ((1, 1, 0), (1, 1, 0)), ((0, 0, 0), (0, 0, 0)),
            ((0, 0, True), (1, 1, 0)), ((0, 0, 1), (True, 1, 0)), ((False, 0, 1), (1, 1, 0)),
            [(0, 0, 1), (1, 1, 0)], ([0, 0, 1], (1, 1, 0)), ((0, 0, 1), [1, 1, 0]),
            ((0, 0, 2), (2, 2, 0), (2, 2, 0)), ((0, 0, 1),), (), ((0, 1), (1, 0)), ((0, 0, 1, 0), (1, 1, 0, 0)),
            ((0, 0, 1), (1, 1)), ((0, 0, 1), (1, 1, 0, 0)), ((0, 0, 4), (1, 1, 3)), ((0, 0, 2), (5, 0, 0)),
            ((0, 0, 0), (0, 5, -3)), ((-1, -1, 1), (0, 0, 0)), (0, 0, 1), ((0, 0, 1.0), (1, 1, 0)), "clash", None,
            {0: (0, 0, 1), 1: (1, 1, 0)}, ((0, 0, "1"), (1, 1, 0)), ((0, 0, None), (1, 1, 0)), (None, (1, 1, 0)),
        ]:
            self.assert_told(False, is_clash, lot, number, thing)

    def test_a_number_one_beyond_the_bound(self):
        for number in range(1, 9):
            self.assert_told(True, is_clash, (1, 1), number, ((0, number), (number, 0)))
            self.assert_told(True, is_clash, (0, 1), number, ((0, 0), (number, 0)))
            self.assert_told(False, is_clash, (1, 1), number, ((0, number + 1), (number + 1, 0)))
            self.assert_told(False, is_clash, (0, 1), number, ((0, 0), (number + 1, 0)))
            self.assert_told(False, is_clash, (0, 1), number, ((-1, 0), (0, 0)))

    def test_all_pairs_as_the_words_say(self):
        for lot in small_lots(two=5, three=3):
            for pair in itertools.product(takings(lot, 2), repeat=2):
                self.assert_told(is_clash_by_words(lot, 2, pair), is_clash, lot, 2, pair)

    def test_of_anything(self):
        good = ((0, 0, 1), (1, 1, 0))
        for thing in anything(good, ((0, 2), (3, 0)), ((0, 0, 0, 1), (0, 0, 2, 0))):
            for lot in [(2, 3, 5), (2, 3), (1, 2, 4, 8)]:
                self.assert_told(is_clash_by_words(lot, 7, thing), is_clash, lot, 7, thing)


class FirstClash(Case):
    def test_by_hand(self):
        self.assert_told(((0, 0, 1), (1, 1, 0)), first_clash, (2, 3, 5), 1)
        self.assert_told(((0, 2, 0), (1, 0, 1)), first_clash, (3, 5, 7), 2)
        self.assert_told(((0, 0, 2), (3, 1, 0)), first_clash, (3, 5, 7), 3)
        self.assert_told(((0, 8), (7, 0)), first_clash, (8, 7), 8)
        self.assert_told(None, first_clash, (8, 7), 7)
        self.assert_told(None, first_clash, (1, 9, 81, 729), 8)
        self.assert_told(((0, 0), (0, 1)), first_clash, (5, 0), 1)
        self.assert_told(((0, 0, 0, 0), (0, 0, 1, 0)), first_clash, (0, 0, 0, 1000), 8)

    def test_the_first_of_all_pairs_gone_through(self):
        for lot in list(small_lots(two=8, three=5, four=2)) + some_lots(75, 6, 20):
            for number in (1, 2, 3) if len(lot) < 4 else (1, 2):
                pairs = itertools.combinations(takings(lot, number), 2)
                first = next((pair for pair in pairs if sum_of(pair[0], lot) == sum_of(pair[1], lot)), None)
                self.assert_told(first, first_clash, lot, number)

    def test_as_the_words_say(self):
        for lot in list(small_lots(two=10, three=4)) + some_lots(76, 5, 60, 1000):
            for number in (4, 7, 8):
                self.assert_told(first_clash_by_words(lot, number), first_clash, lot, number)

    def test_it_is_a_clash_and_there_just_where_one_is(self):
        for lot in lots_of_all_sizes():
            for number in (1, 2, 5, 8):
                told = first_clash(lot, number)
                self.assertIs(told is None, has_none(lot, number))
                if told is not None:
                    self.assertIs(is_clash(lot, number, told), True)


class Refused(Case):
    def test_what_is_no_lot(self):
        for thing in no_lots():
            for call in OF_LOT:
                self.assert_refused(NoLot, call, thing)
            self.assert_refused(NoLot, has_none, thing, 1)
            self.assert_refused(NoLot, is_clash, thing, 1, ((0, 1), (1, 0)))
            self.assert_refused(NoLot, first_clash, thing, 1)

    def test_a_number_above_the_bound(self):
        for lot in TOO_GREAT:
            for call in OF_LOT:
                self.assert_refused(TooMany, call, lot)
            self.assert_refused(TooMany, has_none, lot, 1)
            self.assert_refused(TooMany, is_clash, lot, 1, ((0, 1), (1, 0)))
            self.assert_refused(TooMany, first_clash, lot, 1)

    def test_what_is_no_number(self):
        for thing in no_numbers(1, 8):
            self.assert_refused(NoNumber, has_none, (2, 3), thing)
            self.assert_refused(NoNumber, is_clash, (2, 3), thing, ((0, 2), (3, 0)))
            self.assert_refused(NoNumber, is_clash, (2, 3), thing, thing)
            self.assert_refused(NoNumber, first_clash, (1000, 2, 3, 4), thing)

    def test_no_lot_goes_ahead_of_all(self):
        for lot in [(1001, -1), [1001, 5], (1001,), (0, 0), (1001, True), (1001, 1, 1, 1, 1), None, "1001:1"]:
            for number in (1, 0, 9, True, None, "x"):
                self.assert_refused(NoLot, has_none, lot, number)
                self.assert_refused(NoLot, is_clash, lot, number, None)
                self.assert_refused(NoLot, first_clash, lot, number)

    def test_too_many_goes_ahead_of_no_number(self):
        for lot in TOO_GREAT:
            for number in (0, 9, -1, True, None, "x", [1]):
                self.assert_refused(TooMany, has_none, lot, number)
                self.assert_refused(TooMany, is_clash, lot, number, None)
                self.assert_refused(TooMany, first_clash, lot, number)


if __name__ == "__main__":
    unittest.main()
