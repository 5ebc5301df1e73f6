import functools
import random
import unittest

from cube_things import (
    NOTHING, ROOTS, cube_ended_by_words, cube_round_by_words, cube_run_by_words, cube_step_by_words,
    cube_table_by_words, is_cube_lot_by_words, no_cube_lots, no_roots, product_by_words, shape_by_words, sign_by_words,
    some_cube_lot, times_all,
)
from drawndown.errors import Ended, NoCube, NoNumber, NoRoot
from drawndown.rounds import cube_round, cube_step, cube_table, cubes_alike, round_numbers, round_table
from things import (
    GREAT, Case, has_ended_by_words, multiplied_by_words, no_numbers, one_number_by_words, small_lots, some_lots,
    step_by_words, table_by_words,
)

OF_STEP = (cube_step, cube_table)
OF_ROUND = (cube_round, round_table, round_numbers)

ONE = (1, 0, 0)
T = (0, 1, 0)
T_TWICE = (0, 0, 1)
PLAIN = (ONE, T, T_TWICE)

# Root, cube lot, and its round.
ROUNDS = [
    (2, PLAIN, (2, 1)), (3, PLAIN, (2, 2)), (5, PLAIN, (7, 6)), (9, PLAIN, (2, 1)), (28, PLAIN, (2, 1)),
    (31, PLAIN, (5, 13)), (28, ((0, 1, 1), (1, 1, 1), (-1, 1, 0)), (3, 1)), (36, PLAIN, (4, 4)),
    (7, ((-1, 1, 0), (-1, 0, 1), (0, 1, 0)), (3, 3)), (26, ((-1, -2, 2), (1, 1, 0), (1, 1, 1)), (16, 3)),
    (22, ((-1, -1, 1), (0, 1, 0), (1, 0, 0)), (3, 27)), (17, ((-3, -3, 2), (0, 1, 0), (2, 0, 0)), (4, 35)),
    (19, ((0, 2, 1), (1, 0, 2), (1, 0, 0)), (8, 32)),
]

ENDED = [
    (ONE, NOTHING, NOTHING), (NOTHING, (-1, 1, 0), NOTHING), (NOTHING, NOTHING, (0, 0, 7)),
    ((5, -3, 2), NOTHING, NOTHING),
]


def whole_lot(lot):
    """Three whole numbers as cube numbers."""
    return tuple((number, 0, 0) for number in lot)


def cube_times(table, lot):
    """The table times the cube lot, part by part."""
    return tuple(
        tuple(sum(many * number[part] for many, number in zip(line, lot)) for part in range(3)) for line in table
    )


def some_cube_lots(seed, many, *most):
    """So many (root, cube lot) with parts up to each of these."""
    dice = random.Random(seed)
    drawn = []
    for bound in most:
        for count in range(many):
            root = dice.choice(ROOTS)
            drawn.append((root, some_cube_lot(dice, root, bound)))
    return drawn


def cube_lots():
    """(root, cube lot): of whole numbers, with noughts ahead and elsewhere, with numbers below 1, with great parts."""
    found = [(root, PLAIN) for root in ROOTS]
    found += [(5, whole_lot(lot)) for lot in small_lots(three=3)]
    found += [(7, (NOTHING, T, ONE)), (7, (NOTHING, (-1, 1, 0), (-3, 0, 1))), (7, (ONE, NOTHING, T_TWICE)),
              (7, (T, T_TWICE, NOTHING)), (7, (NOTHING, NOTHING, T)), (2, ((-1, 1, 0), (1, -2, 1), (0, 0, 1))),
              (2, ((1, -2, 1), (-1, 1, 0), (0, 0, 1))), (2, ((0, 1, 0), (0, 1, 0), (0, 1, 0)))]
    return found + some_cube_lots(91, 60, 2, 9, 10 ** 12) + some_cube_lots(92, 4, GREAT)


def standing_cube_lots():
    """Those that haven't ended."""
    return [(root, lot) for root, lot in cube_lots() if not cube_ended_by_words(lot)]


class Interface(Case):
    def test_arguments(self):
        for call in OF_STEP:
            self.assert_interface(call, "root", "lot")
        self.assert_interface(cubes_alike, "root", "one", "other")
        for call in OF_ROUND:
            self.assert_interface(call, "root", "lot", "most")


class Step(Case):
    def assert_step(self, root, lot, behind, table):
        self.assert_told(behind, cube_step, root, lot)
        self.assert_told(table, cube_table, root, lot)

    def test_by_hand(self):
        self.assert_step(2, PLAIN, ((-1, 1, 0), (-1, 0, 1), ONE), ((0, 0, 1), (1, 0, 1), (0, 1, 1)))
        self.assert_step(2, ((-1, 1, 0), (-1, 0, 1), ONE), ((1, -2, 1), (4, -3, 0), (-1, 1, 0)),
                         ((0, 0, 1), (1, 0, 2), (0, 1, 3)))
        self.assert_step(7, (T, ONE, NOTHING), (ONE, NOTHING, T), ((0, 0, 1), (1, 0, 0), (0, 1, 0)))
        self.assert_step(7, (T, T, (2, 3, 0)), (NOTHING, (2, -1, 0), T),
                         ((0, 0, 1), (1, 0, 1), (0, 1, 4)))

    def test_a_first_number_that_is_nought_divides_nothing(self):
        for root in ROOTS:
            for one, other in [(T, ONE), ((9, 0, 0), (3, 0, 0)), (T_TWICE, T_TWICE), ((GREAT, 0, 0), (0, 5, 0))]:
                self.assert_step(root, (NOTHING, one, other), (one, other, NOTHING), ((0, 0, 1), (1, 0, 0), (0, 1, 0)))

    def test_whole_numbers_turn_as_lots_do(self):
        lots = [lot for lot in small_lots(three=6)] + [lot for lot in some_lots(93, 20, 99, GREAT) if len(lot) == 3]
        for lot in lots:
            if not has_ended_by_words(lot):
                self.assert_step(6, whole_lot(lot), whole_lot(step_by_words("turn", lot)), table_by_words("turn", lot))

    def test_as_the_words_say(self):
        for root, lot in standing_cube_lots():
            for each in cube_run_by_words(root, lot, 3):
                if not cube_ended_by_words(each):
                    self.assert_step(root, each, cube_step_by_words(root, each), cube_table_by_words(root, each))

    def test_the_first_number_goes_in_wholly(self):
        root = 2
        part = (-1, 1, 0)
        for many in (1, 2, 7, GREAT):
            more = tuple(many * each for each in part)
            self.assert_step(root, (part, more, part), (NOTHING, NOTHING, part), ((0, 0, 1), (1, 0, many), (0, 1, 1)))

    def test_what_hangs_together(self):
        for root, lot in standing_cube_lots():
            behind, table = cube_step(root, lot), cube_table(root, lot)
            self.assertTrue(is_cube_lot_by_words(root, behind))
            self.assertEqual(cube_times(table, behind), lot)
            self.assertEqual(one_number_by_words(table), 1)
            self.assertEqual(behind[2], lot[0])
            if lot[0] != NOTHING:
                for left in behind[:2]:
                    over = tuple(one - other for one, other in zip(lot[0], left))
                    self.assertEqual(sign_by_words(root, over), 1)


class Alike(Case):
    def assert_alike(self, wanted, root, one, other):
        self.assert_told(wanted, cubes_alike, root, one, other)
        self.assert_told(wanted, cubes_alike, root, other, one)

    def test_by_hand(self):
        self.assert_alike(True, 2, PLAIN, PLAIN)
        self.assert_alike(True, 2, PLAIN, (T, T_TWICE, (2, 0, 0)))
        self.assert_alike(False, 2, PLAIN, (T, T_TWICE, (3, 0, 0)))
        self.assert_alike(False, 3, PLAIN, (T, T_TWICE, (2, 0, 0)))
        self.assert_alike(True, 5, whole_lot((2, 4, 6)), whole_lot((3, 6, 9)))
        self.assert_alike(False, 5, whole_lot((2, 4, 6)), whole_lot((3, 6, 8)))
        self.assert_alike(False, 5, (ONE, T, NOTHING), (ONE, NOTHING, T))
        self.assert_alike(False, 5, (ONE, T, NOTHING), (NOTHING, ONE, T))
        self.assert_alike(True, 5, (NOTHING, NOTHING, ONE), (NOTHING, NOTHING, T_TWICE))
        self.assert_alike(False, 5, (NOTHING, NOTHING, ONE), (ONE, NOTHING, NOTHING))
        self.assert_alike(False, 5, (NOTHING, ONE, NOTHING), (ONE, ONE, ONE))

    def test_by_a_factor_that_is_a_cube_number(self):
        dice = random.Random(94)
        for root, lot in cube_lots():
            for most in (3, 10 ** 6):
                factor = tuple(dice.randint(0, most) for part in range(3))
                if factor != NOTHING:
                    self.assert_alike(True, root, lot, times_all(root, lot, factor))

    def test_by_a_factor_below_one(self):
        for root, lot in cube_lots():
            less = max(number for number in range(5) if number ** 3 <= root)
            self.assert_alike(True, root, lot, times_all(root, lot, (-less, 1, 0)))
            near = product_by_words(root, (-less, 1, 0), (-less, 1, 0))
            self.assert_alike(True, root, times_all(root, lot, (7, 0, 0)), times_all(root, lot, near))

    def test_such_as_differ_in_one_part_alone(self):
        dice = random.Random(95)
        for root, lot in cube_lots():
            other = [list(number) for number in times_all(root, lot, (2, 1, 0))]
            other[dice.randrange(3)][dice.randrange(3)] += 1
            other = tuple(map(tuple, other))
            wanted = shape_by_words(root, other) == shape_by_words(root, lot)
            self.assert_alike(wanted, root, lot, other)
            if not cube_ended_by_words(lot):
                self.assertFalse(wanted)

    def test_as_the_words_say(self):
        lots = [lot for root, lot in some_cube_lots(96, 25, 1)] + [whole_lot(lot) for lot in small_lots(three=1)]
        for root in (2, 7, 50):
            right = [lot for lot in lots if is_cube_lot_by_words(root, lot)]
            shapes = [shape_by_words(root, lot) for lot in right]
            for one, of_one in zip(right, shapes):
                for other, of_other in zip(right, shapes):
                    self.assert_told(of_one == of_other, cubes_alike, root, one, other)


class Round(Case):
    def test_by_hand(self):
        self.assert_told((2, 1), cube_round, 2, PLAIN, 3)
        self.assert_told(((0, 0, 1), (1, 0, 3), (0, 1, 3)), round_table, 2, PLAIN, 3)
        self.assert_told((3, -3, 1), round_numbers, 2, PLAIN, 3)

    def test_just_at_the_number_and_not_at_one_less(self):
        for root, lot, found in ROUNDS:
            for most in sorted({sum(found), min(sum(found) + 1, 40), 40}):
                self.assert_told(found, cube_round, root, lot, most)
            for call in OF_ROUND:
                self.assertIsNotNone(call(root, lot, sum(found)))
                self.assert_told(None, call, root, lot, sum(found) - 1)
                self.assert_told(None, call, root, lot, 1)

    def test_a_lot_on_its_round_comes_back_to_itself(self):
        for root, lot, (ahead, steps) in ROUNDS:
            within = cube_run_by_words(root, lot, ahead)[-1]
            self.assert_told((0, steps), cube_round, root, within, steps)
            if steps > 1:
                self.assert_told(None, cube_round, root, within, steps - 1)
            if ahead > 0:
                before = cube_run_by_words(root, lot, ahead - 1)[-1]
                self.assert_told((1, steps), cube_round, root, before, 40)

    def test_a_round_of_one_step_at_the_number_one(self):
        within = cube_run_by_words(2, PLAIN, 2)[-1]
        self.assert_told((0, 1), cube_round, 2, within, 1)
        self.assert_told((3, -3, 1), round_numbers, 2, within, 1)

    def test_lots_that_come_to_an_end(self):
        for lot in list(small_lots(three=3)) + [(GREAT, GREAT - 1, 5)]:
            for call in OF_ROUND:
                self.assert_told(None, call, 11, whole_lot(lot), 40)
        for lot in ENDED:
            for most in (1, 40):
                for call in OF_ROUND:
                    self.assert_told(None, call, 2, lot, most)
        for call in OF_ROUND:
            self.assert_told(None, call, 3, times_all(3, whole_lot((6, 10, 15)), (-1, 1, 0)), 40)

    def test_lots_that_do_not_come_round(self):
        for root, lot in [(4, PLAIN), (7, (NOTHING, ONE, T)), (2, (ONE, T, NOTHING))]:
            for call in OF_ROUND:
                self.assert_told(None, call, root, lot, 40)

    def test_as_the_words_say(self):
        for root, lot in [(root, PLAIN) for root in ROOTS[::4]] + some_cube_lots(97, 12, 1, 2, 10 ** 6):
            for most in (5, 22):
                found = cube_round_by_words(root, lot, most)
                self.assert_told(found, cube_round, root, lot, most)
                self.assert_table(root, lot, most, found)

    def test_the_tables_of_rounds(self):
        for root, lot, found in ROUNDS:
            self.assert_table(root, lot, 40, found)

    def assert_table(self, root, lot, most, found):
        if found is None:
            self.assert_told(None, round_table, root, lot, most)
            self.assert_told(None, round_numbers, root, lot, most)
            return
        ahead, steps = found
        lots = cube_run_by_words(root, lot, ahead + steps)
        tables = [cube_table_by_words(root, each) for each in lots[ahead:-1]]
        table = functools.reduce(multiplied_by_words, tables)
        self.assert_told(table, round_table, root, lot, most)
        self.assertEqual(cube_times(table, lots[-1]), lots[ahead])
        self.assert_told(numbers_by_words(table), round_numbers, root, lot, most)

    def test_by_the_three_numbers_the_factor_comes_to_nought(self):
        for root, lot, (ahead, steps) in ROUNDS:
            lots = cube_run_by_words(root, lot, ahead + steps)
            one, two, three = round_numbers(root, lot, 40)
            self.assertEqual(three, one_number_by_words(round_table(root, lot, 40)))
            self.assertIn(three, (1, -1))
            at = next(place for place in range(3) if lots[-1][place] != NOTHING)
            big, small = lots[ahead][at], lots[-1][at]
            # The factor is big through small: all is times small, three times by itself.
            times = functools.partial(functools.reduce, functools.partial(product_by_words, root))
            powers = [times([big] * many + [small] * (3 - many)) for many in range(4)]
            whole = [powers[3][part] - one * powers[2][part] + two * powers[1][part] - three * powers[0][part]
                     for part in range(3)]
            self.assertEqual(whole, [0, 0, 0])


def numbers_by_words(table):
    """From what the table's one number is where a number is taken away along it: at 0, 1 and -1."""
    def at(number):
        return one_number_by_words(tuple(
            tuple((number if i == j else 0) - table[i][j] for j in range(3)) for i in range(3)
        ))
    # at(x) is x ** 3 - one * x ** 2 + two * x - three.
    three = -at(0)
    one = -(at(1) + at(-1) - 2 * at(0)) // 2
    two = (at(1) - at(-1)) // 2 - 1
    return one, two, three


class Refused(Case):
    def test_what_is_no_root(self):
        for thing in no_roots():
            for call in OF_STEP:
                self.assert_refused(NoRoot, call, thing, PLAIN)
            self.assert_refused(NoRoot, cubes_alike, thing, PLAIN, PLAIN)
            for call in OF_ROUND:
                self.assert_refused(NoRoot, call, thing, PLAIN, 3)

    def assert_no_cube_lot(self, root, thing):
        for call in OF_STEP:
            self.assert_refused(NoCube, call, root, thing)
        self.assert_refused(NoCube, cubes_alike, root, thing, PLAIN)
        self.assert_refused(NoCube, cubes_alike, root, PLAIN, thing)
        for call in OF_ROUND:
            self.assert_refused(NoCube, call, root, thing, 3)

    def test_what_is_no_cube_lot(self):
        for thing in no_cube_lots(2):
            self.assert_no_cube_lot(2, thing)

    def test_a_number_below_nought_and_noughts_alone(self):
        for lot in [
            (NOTHING, NOTHING, NOTHING), (ONE, T, (-1, 0, 0)), ((1, -1, 0), ONE, ONE), (ONE, (0, 5, -4), ONE),
            (ONE, T), (ONE, T, T_TWICE, ONE), [ONE, T, T_TWICE], (ONE, T, [0, 0, 1]), (ONE, T, (0, 0, True)),
            (ONE, T, (0, 1)), (1, 2, 3), whole_lot((1, 2)), (ONE, ONE, (0, 0, 0, 0)), None, "1",
        ]:
            self.assert_no_cube_lot(2, lot)

    def test_what_is_below_nought_hangs_on_the_root(self):
        # Seven times t is less than 9 of the root 2, more of the root 3.
        lot = ((-9, 7, 0), ONE, ONE)
        for call in OF_STEP:
            self.assert_refused(NoCube, call, 2, lot)
            self.assertIsInstance(self.told(call, 3, lot), tuple)
        self.assert_refused(NoCube, cubes_alike, 2, lot, lot)
        self.assert_told(True, cubes_alike, 3, lot, lot)

    def test_ended(self):
        for lot in ENDED:
            for call in OF_STEP:
                self.assert_refused(Ended, call, 2, lot)

    def test_what_is_no_number(self):
        for thing in no_numbers(1, 40):
            for call in OF_ROUND:
                self.assert_refused(NoNumber, call, 2, PLAIN, thing)
                self.assert_refused(NoNumber, call, 2, ENDED[0], thing)

    def test_which_goes_first(self):
        for root in (8, 27, 1, 51, True, None, "2"):
            for lot in [None, (ONE, T), (NOTHING, NOTHING, NOTHING), ENDED[0], [ONE, T, T_TWICE]]:
                for call in OF_STEP:
                    self.assert_refused(NoRoot, call, root, lot)
                self.assert_refused(NoRoot, cubes_alike, root, lot, PLAIN)
                self.assert_refused(NoRoot, cubes_alike, root, PLAIN, lot)
                for call in OF_ROUND:
                    self.assert_refused(NoRoot, call, root, lot, 0)
        below = (-1, 0, 0)
        for lot in [None, (ONE, T), (NOTHING, NOTHING, NOTHING), (ONE, below, NOTHING), (below, NOTHING, NOTHING)]:
            for call in OF_STEP:
                self.assert_refused(NoCube, call, 2, lot)
            for call in OF_ROUND:
                for most in (0, 41, True, None, "x"):
                    self.assert_refused(NoCube, call, 2, lot, most)


if __name__ == "__main__":
    unittest.main()
