import itertools
import unittest

from drawndown.beside import by_steps, common_end, many_steps, most_steps
from drawndown.errors import NoLot, NoNumber, NoRule, NoSize
from things import (
    GREAT, RULES, Case, no_lots, no_numbers, no_rules, no_sizes, run_by_words, slow_lot, small_lots, some_lots,
    steps_by_words,
)

ENDED = [(1, 0), (0, 7), (0, 0, 5), (0, GREAT, 0), (0, 0, 0, 1), (3, 0, 0, 0)]


def all_lots():
    return list(small_lots(two=12, three=6, four=3)) + some_lots(101, 15, 60, 10 ** 9) + some_lots(102, 4, GREAT)


def same_numbers(one, other):
    """Whether two lots have the same numbers, in whatever order."""
    return any(order == other for order in itertools.permutations(one))


def common_end_by_words(one, other, lot):
    """The greatest number for which all the last lots match: each number is tried."""
    runs = run_by_words(one, lot), run_by_words(other, lot)
    fits = [
        many for many in range(min(map(len, runs)) + 1)
        if all(same_numbers(runs[0][-at], runs[1][-at]) for at in range(1, many + 1))
    ]
    return fits[-1]


def most_steps_by_words(rule, size, number):
    lots = [lot for lot in itertools.product(range(number + 1), repeat=size) if any(lot)]
    steps = [steps_by_words(rule, lot) for lot in lots]
    return max(steps), sorted(lot for lot, many in zip(lots, steps) if many == max(steps))


class Interface(Case):
    def test_arguments(self):
        self.assert_interface(many_steps, "rule", "lot")
        self.assert_interface(by_steps, "lot")
        self.assert_interface(common_end, "one", "other", "lot")
        self.assert_interface(most_steps, "rule", "size", "number")


class ManySteps(Case):
    def test_by_hand(self):
        self.assert_told(3, many_steps, "next", (12, 5))
        self.assert_told(1, many_steps, "next", (7, 7))
        self.assert_told(3, many_steps, "all", (6, 10, 15))
        self.assert_told(5, many_steps, "turn", (6, 10, 15))

    def test_as_the_words_say(self):
        for lot in all_lots():
            for rule in RULES:
                self.assert_told(steps_by_words(rule, lot), many_steps, rule, lot)

    def test_none_of_a_lot_that_has_ended(self):
        for lot in ENDED:
            for rule in RULES:
                self.assert_told(0, many_steps, rule, lot)

    def test_runs_of_many_steps(self):
        for size in (2, 3, 4):
            lot = slow_lot(size, 300)
            for rule in RULES:
                self.assertGreater(many_steps(rule, lot), 200)
                self.assert_told(steps_by_words(rule, lot), many_steps, rule, lot)


class BySteps(Case):
    def test_by_hand(self):
        self.assert_told([("all", 3), ("least", 4), ("turn", 5), ("next", 6)], by_steps, (6, 10, 15))
        self.assert_told([("all", 3), ("least", 3), ("next", 3), ("turn", 4)], by_steps, (12, 5))
        self.assert_told([("all", 3), ("least", 3), ("next", 3), ("turn", 3)], by_steps, (5, 12))

    def test_like_many_steps_go_by_the_lesser_name(self):
        for lot in ENDED:
            self.assert_told([("all", 0), ("least", 0), ("next", 0), ("turn", 0)], by_steps, lot)

    def test_as_the_words_say(self):
        for lot in all_lots():
            steps = {rule: steps_by_words(rule, lot) for rule in RULES}
            counts = sorted(set(steps.values()))
            wanted = [(rule, many) for many in counts for rule in sorted(RULES) if steps[rule] == many]
            self.assert_told(wanted, by_steps, lot)

    def test_the_told_list_is_the_askers_own(self):
        for lot in [(12, 5), (6, 10, 15), (4, 6, 8, 10), (0, 7)]:
            self.assert_own_list(by_steps, lot)


class CommonEnd(Case):
    def test_by_hand(self):
        self.assert_told(4, common_end, "next", "least", (12, 5))
        # (0, 1), and ahead of it both runs have 1 and 2, then 2 and 5, then 5 and 12.
        self.assert_told(4, common_end, "next", "turn", (5, 12))
        self.assert_told(4, common_end, "next", "turn", (12, 5))
        self.assert_told(1, common_end, "all", "next", (6, 10, 15))

    def test_one_rule_twice(self):
        for lot in all_lots():
            for rule in RULES:
                self.assert_told(steps_by_words(rule, lot) + 1, common_end, rule, rule, lot)

    def test_lots_that_have_ended(self):
        for lot in ENDED:
            for one, other in itertools.product(RULES, repeat=2):
                self.assert_told(1, common_end, one, other, lot)

    def test_as_the_words_say(self):
        lots = list(small_lots(two=8, three=5, four=2)) + some_lots(103, 12, 60, 10 ** 9) + some_lots(104, 2, GREAT)
        found = set()
        for lot in lots:
            for one, other in itertools.product(RULES, repeat=2):
                wanted = common_end_by_words(one, other, lot)
                self.assert_told(wanted, common_end, one, other, lot)
                found.add((wanted, steps_by_words(one, lot) != steps_by_words(other, lot)))
        # Runs of unlike lengths that go together for a while were among them.
        self.assertTrue({(many, True) for many in (1, 2, 3, 4)} <= found)


class MostSteps(Case):
    def test_by_hand(self):
        self.assert_told((4, [(5, 8), (8, 5)]), most_steps, "next", 2, 8)
        self.assert_told((5, [(8, 5)]), most_steps, "turn", 2, 8)
        self.assert_told((1, [(1, 1)]), most_steps, "next", 2, 1)

    def test_as_the_words_say(self):
        for rule in RULES:
            for size, numbers in ((2, range(1, 9)), (3, (1, 2, 3, 5, 8)), (4, (1, 2, 3))):
                for number in numbers:
                    self.assert_told(most_steps_by_words(rule, size, number), most_steps, rule, size, number)

    def test_the_greatest_size_and_number(self):
        for rule in RULES:
            steps, lots = most_steps(rule, 4, 8)
            self.assertEqual((steps, lots), most_steps_by_words(rule, 4, 8))
            self.assertEqual(lots, sorted(set(lots)))

    def test_the_told_list_is_the_askers_own(self):
        for rule in RULES:
            self.assert_own_list(lambda *handed: most_steps(*handed)[1], rule, 3, 4)


class Refused(Case):
    def test_what_is_no_lot(self):
        for at, thing in enumerate(no_lots()):
            self.assert_refused(NoLot, many_steps, RULES[at % 4], thing)
            self.assert_refused(NoLot, by_steps, thing)
            self.assert_refused(NoLot, common_end, RULES[at % 4], RULES[at // 4 % 4], thing)

    def test_what_is_no_rule(self):
        for thing in no_rules():
            self.assert_refused(NoRule, many_steps, thing, (12, 5))
            self.assert_refused(NoRule, common_end, thing, "all", (12, 5))
            self.assert_refused(NoRule, common_end, "all", thing, (12, 5))
            self.assert_refused(NoRule, common_end, thing, thing, (12, 5))
            self.assert_refused(NoRule, most_steps, thing, 2, 8)

    def test_what_is_no_size(self):
        for thing in no_sizes(4):
            self.assert_refused(NoSize, most_steps, "all", thing, 1)

    def test_what_is_no_number(self):
        for thing in no_numbers(1, 8):
            self.assert_refused(NoNumber, most_steps, "all", 2, thing)

    def test_no_rule_goes_ahead_of_all(self):
        for thing in no_lots()[::9]:
            self.assert_refused(NoRule, many_steps, "first", thing)
            self.assert_refused(NoRule, many_steps, thing, thing)
            self.assert_refused(NoRule, common_end, "first", "all", thing)
            self.assert_refused(NoRule, common_end, "all", "first", thing)
            self.assert_refused(NoRule, most_steps, "first", thing, 9)
            self.assert_refused(NoRule, most_steps, None, 2, thing)

    def test_no_size_goes_ahead_of_no_number(self):
        for size in (0, 1, 5, -2, True, None, "2", (2,)):
            for number in (0, 9, True, None, "x"):
                self.assert_refused(NoSize, most_steps, "turn", size, number)


if __name__ == "__main__":
    unittest.main()
