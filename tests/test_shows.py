import itertools
import math
import random
import unittest
from fractions import Fraction

from drawndown.errors import NoLot, NoRule
from drawndown.shows import are_weights, base, is_base, is_relation, is_showing, showing, weights
from things import (
    GREAT, OTHER_KINDS, RULES, Case, anything, has_ended_by_words, is_number_by_words, is_tuple_by_words,
    lines_by_words, near, no_lots, no_rules, slow_lot, small_lots, some_fair_table, some_lots,
)

LOTS = [(12, 5), (4, 6), (12, 0, 5), (6, 10, 15), (0, 0, 3), (4, 6, 8, 10), (0, 9, 0, 6), (5, 0, 0, 0)]
ASKED = (are_weights, is_relation, is_base, is_showing)
TOLD = (weights, base, showing)


def comes_to(lot, line):
    return sum(one * other for one, other in zip(lot, line))


def are_weights_by_words(lot, thing):
    return is_tuple_by_words(thing, len(lot)) and comes_to(lot, thing) == math.gcd(*lot)


def is_relation_by_words(lot, thing):
    return is_tuple_by_words(thing, len(lot)) and comes_to(lot, thing) == 0


def many_times(lines, wanted):
    """How often each line is to be taken for the wanted one; None where there isn't just one way."""
    many = len(lines)
    rows = [[Fraction(line[at]) for line in lines] + [Fraction(wanted[at])] for at in range(len(wanted))]
    for column in range(many):
        found = [row for row in rows[column:] if row[column] != 0]
        if not found:
            return None
        rows.remove(found[0])
        rows.insert(column, [number / found[0][column] for number in found[0]])
        for at in range(len(rows)):
            if at != column:
                rows[at] = [one - rows[at][column] * other for one, other in zip(rows[at], rows[column])]
    return None if any(row[many] != 0 for row in rows[many:]) else [row[many] for row in rows[:many]]


def pair_relations(lot):
    """Of each two numbers, not both 0, their least relation: all relations are sums of whole many times of these."""
    for one, other in itertools.combinations(range(len(lot)), 2):
        shared = math.gcd(lot[one], lot[other])
        if shared != 0:
            line = [0] * len(lot)
            line[one], line[other] = lot[other] // shared, -lot[one] // shared
            yield tuple(line)


def is_base_by_words(lot, thing):
    if type(thing) is not list or len(thing) != len(lot) - 1:
        return False
    if not all(is_relation_by_words(lot, line) for line in thing):
        return False
    found = [many_times(thing, relation) for relation in pair_relations(lot)]
    return all(ways is not None and all(often.denominator == 1 for often in ways) for ways in found)


def is_showing_by_words(lot, thing):
    if type(thing) is not tuple or len(thing) != 3:
        return False
    shared, quotients, line = thing
    if not is_number_by_words(shared) or shared <= 0 or not is_tuple_by_words(quotients, len(lot)):
        return False
    if any(number != shared * quotient for number, quotient in zip(lot, quotients)):
        return False
    return is_tuple_by_words(line, len(lot)) and comes_to(lot, line) == shared


def drawn_lots():
    return list(small_lots(two=10, three=5, four=2)) + some_lots(41, 15, 40, 10 ** 8) + some_lots(42, 4, GREAT)


def near_list(lines):
    return [list(thing) if isinstance(thing, tuple) else thing for thing in near(tuple(lines))] + near(tuple(lines))


def mixed(dice, lines, most):
    """Another base: the lines by a fair table (of one line: by a sign)."""
    if len(lines) == 1:
        sign = dice.choice((1, -1))
        return [tuple(sign * number for number in lines[0])]
    table = some_fair_table(dice, len(lines), most)
    columns = list(zip(*lines))
    return [tuple(comes_to(row, column) for column in columns) for row in table]


class Interface(Case):
    def test_arguments(self):
        for call in ASKED:
            self.assert_interface(call, "lot", "thing")
        for call in TOLD:
            self.assert_interface(call, "rule", "lot")


class Weights(Case):
    def test_by_hand(self):
        self.assert_told((-2, 5), weights, "next", (12, 5))
        self.assert_told((-2, 5), weights, "turn", (12, 5))
        self.assert_told((0, 1), weights, "next", (5, 5))
        self.assert_told((1, 0), weights, "all", (5, 5))
        self.assert_told((-2, 0, 5), weights, "least", (12, 0, 5))
        self.assert_told((1, -2, 1), weights, "next", (6, 10, 15))
        self.assert_told((6, 1, -3), weights, "least", (6, 10, 15))
        self.assert_told((1, 1, -1), weights, "all", (6, 10, 15))
        self.assert_told((1, 1, -1), weights, "turn", (6, 10, 15))
        self.assert_told((0, 0, -1, 1), weights, "next", (4, 6, 8, 10))
        self.assert_told((-2, 0, 0, 1), weights, "least", (4, 6, 8, 10))
        self.assert_told((-1, 1, 0, 0), weights, "all", (4, 6, 8, 10))
        self.assert_told((-1, 1, 0, 0), weights, "turn", (4, 6, 8, 10))

    def test_of_a_lot_that_has_ended(self):
        for rule in RULES:
            self.assert_told((1, 0), weights, rule, (5, 0))
            self.assert_told((0, 0, 1), weights, rule, (0, 0, 3))
            self.assert_told((0, 1, 0, 0), weights, rule, (0, GREAT, 0, 0))

    def test_lines_drawn_down_along_with_the_lot(self):
        for rule in RULES:
            for lot in drawn_lots():
                lines, last = lines_by_words(rule, lot)
                at = last.index(max(last))
                self.assert_told(lines[at], weights, rule, lot)
                self.assert_told(lines[:at] + lines[at + 1:], base, rule, lot)
                quotients = tuple(number // max(last) for number in lot)
                self.assert_told((max(last), quotients, lines[at]), showing, rule, lot)

    def test_what_is_told_is_so_when_it_is_asked(self):
        for rule in RULES:
            for lot in drawn_lots():
                line, lines, shown = weights(rule, lot), base(rule, lot), showing(rule, lot)
                self.assertTrue(are_weights_by_words(lot, line))
                self.assertTrue(is_base_by_words(lot, lines))
                self.assertTrue(is_showing_by_words(lot, shown))
                self.assert_told(True, are_weights, lot, line)
                self.assert_told(True, is_base, lot, lines)
                self.assert_told(True, is_showing, lot, shown)
                for each in lines:
                    self.assert_told(True, is_relation, lot, each)

    def test_runs_of_many_steps(self):
        for rule in RULES:
            for lot in [slow_lot(size, 250) for size in (2, 3, 4)]:
                self.assert_told(True, are_weights, lot, weights(rule, lot))
                self.assert_told(True, is_base, lot, base(rule, lot))
                self.assert_told(True, is_showing, lot, showing(rule, lot))


class AreWeights(Case):
    def test_ordinary(self):
        for line, wanted in [((-2, 5), True), ((3, -7), True), ((-2, 6), False), ((0, 0), False), ((2, -5), False),
                             ((-2, 5, 0), False), ((-2,), False), ([-2, 5], False), ((-2, 5.0), False)]:
            self.assert_told(wanted, are_weights, (12, 5), line)

    def test_they_come_to_the_common_itself(self):
        for line, wanted in [((-1, 1), True), ((2, -1), True), ((1, 0), False), ((-2, 2), False), ((1, -1), False)]:
            self.assert_told(wanted, are_weights, (4, 6), line)

    def test_of_all_small_lines(self):
        for lot in LOTS:
            span = range(-6, 7) if len(lot) < 4 else range(-2, 3)
            for line in itertools.product(span, repeat=len(lot)):
                self.assert_told(comes_to(lot, line) == math.gcd(*lot), are_weights, lot, line)

    def test_a_truth_is_no_whole_number(self):
        self.assert_told(True, are_weights, (5, 4), (1, -1))
        self.assert_told(False, are_weights, (5, 4), (True, -1))
        self.assert_told(True, are_weights, (1, 0), (1, 0))
        for line in [(True, 0), (1, False), (True, False)]:
            self.assert_told(False, are_weights, (1, 0), line)

    def test_great_numbers(self):
        self.assert_told(True, are_weights, (GREAT, GREAT - 1), (1, -1))
        self.assert_told(False, are_weights, (GREAT, GREAT - 1), (1, -2))
        self.assert_told(True, are_weights, (2, 3), (-1 + 3 * GREAT, 1 - 2 * GREAT))
        self.assert_told(False, are_weights, (2, 3), (3 * GREAT, 1 - 2 * GREAT))


class IsRelation(Case):
    def test_ordinary(self):
        for line, wanted in [((5, -12), True), ((-5, 12), True), ((0, 0), True), ((10, -24), True), ((5, 12), False),
                             ((5, -12, 0), False), ((5,), False), ([5, -12], False), ((), False)]:
            self.assert_told(wanted, is_relation, (12, 5), line)

    def test_of_all_small_lines(self):
        for lot in LOTS:
            span = range(-6, 7) if len(lot) < 4 else range(-2, 3)
            for line in itertools.product(span, repeat=len(lot)):
                self.assert_told(comes_to(lot, line) == 0, is_relation, lot, line)

    def test_a_truth_is_no_whole_number(self):
        self.assert_told(True, is_relation, (1, 1), (1, -1))
        for line in [(True, -1), (False, 0), (0, False), (False, False)]:
            self.assert_told(False, is_relation, (1, 1), line)

    def test_great_numbers(self):
        self.assert_told(True, is_relation, (GREAT, GREAT - 1), (1 - GREAT, GREAT))
        self.assert_told(False, is_relation, (GREAT, GREAT - 1), (1 - GREAT, GREAT - 1))


class IsBase(Case):
    def test_two_numbers(self):
        for thing, wanted in [([(5, -12)], True), ([(-5, 12)], True), ([(10, -24)], False), ([(0, 0)], False),
                              ([], False), ([(5, -12), (5, -12)], False), (((5, -12),), False), ([[5, -12]], False),
                              ((5, -12), False), ([(5, 12)], False), ([(5, -12, 0)], False)]:
            self.assert_told(wanted, is_base, (12, 5), thing)

    def test_the_common_is_divided_out(self):
        self.assert_told(True, is_base, (4, 6), [(3, -2)])
        self.assert_told(False, is_base, (4, 6), [(6, -4)])
        self.assert_told(True, is_base, (0, 7), [(1, 0)])
        self.assert_told(True, is_base, (7, 0), [(0, -1)])
        self.assert_told(False, is_base, (7, 0), [(0, 7)])

    def test_three_numbers(self):
        lot = (6, 10, 15)
        for thing, wanted in [([(5, -3, 0), (0, 3, -2)], True), ([(5, -3, 0), (5, 0, -2)], True),
                              ([(5, -3, 0), (5, -6, 2)], True), ([(5, -3, 0), (5, -3, 0)], False),
                              ([(5, -3, 0), (-5, 3, 0)], False), ([(5, -3, 0), (0, 6, -4)], False),
                              ([(5, 0, -2), (5, -6, 2)], False), ([(5, -3, 0), (0, 0, 0)], False),
                              ([(5, -3, 0)], False), ([(5, -3, 0), (0, 3, -2), (5, 0, -2)], False)]:
            self.assertEqual(is_base_by_words(lot, thing), wanted)
            self.assert_told(wanted, is_base, lot, thing)

    def test_noughts(self):
        self.assert_told(True, is_base, (0, 0, 3), [(1, 0, 0), (0, 1, 0)])
        self.assert_told(True, is_base, (0, 0, 3), [(1, 5, 0), (0, -1, 0)])
        self.assert_told(False, is_base, (0, 0, 3), [(2, 0, 0), (0, 1, 0)])
        self.assert_told(False, is_base, (0, 0, 3), [(1, 1, 0), (1, -1, 0)])
        self.assert_told(True, is_base, (0, 0, 5, 0), [(0, 0, 0, 1), (0, 1, 0, 0), (1, 0, 0, 0)])

    def test_of_all_small_lists(self):
        answers = []
        for lot in [(1, 1, 2), (2, 3, 1), (2, 4, 0), (2, 2, 2), (3, 0, 6)]:
            lines = [line for line in itertools.product(range(-2, 3), repeat=3) if comes_to(lot, line) == 0]
            for pair in itertools.product(lines, repeat=2):
                answers.append(is_base_by_words(lot, list(pair)))
                self.assert_told(answers[-1], is_base, lot, list(pair))
        self.assertGreater(answers.count(True), 50)
        self.assertGreater(answers.count(False), 200)

    def test_bases_mixed_by_fair_tables(self):
        dice = random.Random(43)
        for lot in drawn_lots():
            lines = base(dice.choice(RULES), lot)
            thing = mixed(dice, lines, 5)
            self.assertTrue(is_base_by_words(lot, thing))
            self.assert_told(True, is_base, lot, thing)
            at = dice.randrange(len(thing))
            often = dice.choice((0, 2, -2, 3, 7))
            thing[at] = tuple(often * number for number in thing[at])
            self.assertFalse(is_base_by_words(lot, thing))
            self.assert_told(False, is_base, lot, thing)

    def test_great_numbers(self):
        dice = random.Random(44)
        for lot in [lot for lot in some_lots(45, 6, 50, GREAT)]:
            self.assert_told(True, is_base, lot, mixed(dice, base("next", lot), 10 ** 40))

    def test_a_truth_is_no_whole_number(self):
        self.assert_told(True, is_base, (0, 7), [(1, 0)])
        for thing in [[(True, 0)], [(1, False)], [True], [False]]:
            self.assert_told(False, is_base, (0, 7), thing)

    def test_a_list_that_is_changed_later(self):
        thing = [(5, -12)]
        self.assertIs(is_base((12, 5), thing), True)
        thing.append((5, -12))
        self.assertIs(is_base((12, 5), thing), False)
        thing.pop()
        self.assertIs(is_base((12, 5), thing), True)


class IsShowing(Case):
    def test_ordinary(self):
        for thing, wanted in [
            ((2, (2, 3), (-1, 1)), True), ((2, (2, 3), (2, -1)), True), ((1, (4, 6), (-1, 1)), False),
            ((2, (2, 3), (1, -1)), False), ((-2, (-2, -3), (1, -1)), False), ((2, (2, 3), (0, 0)), False),
            ((2, (2, 4), (-1, 1)), False), ((0, (0, 0), (3, -2)), False), ((0, (4, 6), (3, -2)), False),
            ((2, [2, 3], (-1, 1)), False), ((2, (2, 3), [-1, 1]), False), ([2, (2, 3), (-1, 1)], False),
            ((2, (2, 3)), False), ((2, (2, 3), (-1, 1), 0), False), ((2, (2, 3, 0), (-1, 1)), False),
            ((2, (2,), (-1, 1)), False), ((2, (2, 3), (-1, 1, 0)), False), ((2, (2, 3), (-1,)), False),
            (((2, 3), 2, (-1, 1)), False), ((4, (1, 1), (1, 0)), False), ((2, 3, 4), False), ((None,) * 3, False),
        ]:
            self.assertEqual(is_showing_by_words((4, 6), thing), wanted)
            self.assert_told(wanted, is_showing, (4, 6), thing)

    def test_a_truth_is_no_whole_number(self):
        self.assert_told(True, is_showing, (1, 0), (1, (1, 0), (1, 0)))
        for thing in [(True, (1, 0), (1, 0)), (1, (True, 0), (1, 0)), (1, (1, False), (1, 0)), (1, (1, 0), (True, 0)),
                      (1, (1, 0), (1, False))]:
            self.assert_told(False, is_showing, (1, 0), thing)

    def test_by_hand(self):
        self.assert_told((1, (12, 5), (-2, 5)), showing, "next", (12, 5))
        self.assert_told((2, (2, 3, 4, 5), (0, 0, -1, 1)), showing, "next", (4, 6, 8, 10))
        self.assert_told((3, (0, 0, 1), (0, 0, 1)), showing, "turn", (0, 0, 3))

    def test_great_numbers(self):
        for lot in some_lots(46, 10, GREAT):
            shared, quotients, line = showing("all", lot)
            self.assert_told(True, is_showing, lot, (shared, quotients, line))
            self.assert_told(False, is_showing, lot, (shared + 1, quotients, line))
            self.assert_told(False, is_showing, lot, (shared, quotients[:-1] + (quotients[-1] + 1,), line))
            self.assert_told(False, is_showing, lot, (shared, quotients, line[:-1] + (line[-1] + 1,)) if lot[-1]
                             else (shared, quotients, line + (0,)))


class Base(Case):
    def test_by_hand(self):
        self.assert_told([(5, -12)], base, "next", (12, 5))
        self.assert_told([(1, -1)], base, "least", (5, 5))
        self.assert_told([(-1, 1)], base, "all", (5, 5))
        self.assert_told([(0, 3, -2), (-5, -3, 4)], base, "next", (6, 10, 15))
        self.assert_told([(5, 0, -2), (-5, -3, 4)], base, "all", (6, 10, 15))
        self.assert_told([(-5, 0, 2), (0, -3, 2)], base, "turn", (6, 10, 15))
        self.assert_told([(3, -2, 0, 0), (-2, 0, 1, 0), (-1, -1, 0, 1)], base, "all", (4, 6, 8, 10))
        self.assert_told([(-2, 0, 1, 0), (-1, -1, 0, 1), (3, -2, 0, 0)], base, "turn", (4, 6, 8, 10))

    def test_of_a_lot_that_has_ended(self):
        for rule in RULES:
            self.assert_told([(0, 1)], base, rule, (5, 0))
            self.assert_told([(1, 0, 0), (0, 1, 0)], base, rule, (0, 0, 3))
            self.assert_told([(1, 0, 0, 0), (0, 0, 1, 0), (0, 0, 0, 1)], base, rule, (0, 7, 0, 0))

    def test_the_told_list_is_the_askers_own(self):
        for rule in RULES:
            for lot in LOTS:
                self.assert_own_list(base, rule, lot)


class OfAnything(Case):
    def test_each_is_answered(self):
        things = anything((5, -12), (-2, 5), (1, (12, 5), (-2, 5)), (2, (2, 3, 4, 5), (0, 0, -1, 1)), (0, 3, -2))
        for lot in [(12, 5), (6, 10, 15), (4, 6, 8, 10)]:
            things += near_list(base("all", lot)) + near(showing("all", lot)) + near(weights("all", lot))
        for thing in things:
            for lot in [(12, 5), (6, 10, 15), (4, 6, 8, 10), (1, 0)]:
                self.assertIs(are_weights(lot, thing), are_weights_by_words(lot, thing), (lot, thing))
                self.assertIs(is_relation(lot, thing), is_relation_by_words(lot, thing), (lot, thing))
                self.assertIs(is_base(lot, thing), is_base_by_words(lot, thing), (lot, thing))
                self.assertIs(is_showing(lot, thing), is_showing_by_words(lot, thing), (lot, thing))

    def test_nothing_is_changed(self):
        things = anything()[::5] + near_list(base("next", (6, 10, 15)))
        for thing in things:
            for call in ASKED:
                self.told(call, (6, 10, 15), thing)

    def test_other_kinds(self):
        for call in ASKED:
            for thing in OTHER_KINDS + [{(5, -12)}, [{5, -12}], (1, {12, 5}, (-2, 5)), (1.0, (12, 5), (-2, 5))]:
                self.assert_told(False, call, (12, 5), thing)

    def test_what_was_told_may_be_handed_in_again(self):
        lot = slow_lot(4, 400)
        for rule in RULES:
            self.assertIs(is_base(lot, base(rule, lot)), True)
            self.assertIs(is_showing(lot, showing(rule, lot)), True)
            self.assertIs(are_weights(lot, base(rule, lot)[0]), False)
            self.assertIs(is_relation(lot, weights(rule, lot)), False)


class Refused(Case):
    def test_what_is_no_lot(self):
        things = no_lots()
        for call, thing in itertools.product(ASKED, things):
            self.assert_refused(NoLot, call, thing, (1, 2))
        for call in TOLD:
            for at, thing in enumerate(things):
                self.assert_refused(NoLot, call, RULES[at % 4], thing)

    def test_no_lot_whatever_the_thing_is(self):
        for call in ASKED:
            for thing in [None, [], (), (0, 0), [(0, 0)], (1, (0, 0), (0, 0)), "", True]:
                self.assert_refused(NoLot, call, (0, 0), thing)
                self.assert_refused(NoLot, call, [12, 5], thing)

    def test_what_is_no_rule(self):
        for call, thing in itertools.product(TOLD, no_rules()):
            self.assert_refused(NoRule, call, thing, (12, 5))

    def test_no_rule_goes_ahead_of_no_lot(self):
        for call in TOLD:
            for thing in no_lots()[::9]:
                self.assert_refused(NoRule, call, "first", thing)
                self.assert_refused(NoRule, call, thing, thing)

    def test_none_is_refused_for_having_ended(self):
        for call, rule in itertools.product(TOLD, RULES):
            for lot in [(5, 0), (0, 1), (0, 3, 0), (0, 0, 0, 9)]:
                self.assertTrue(has_ended_by_words(lot))
                self.told(call, rule, lot)


if __name__ == "__main__":
    unittest.main()
