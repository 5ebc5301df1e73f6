"""Point 3: what the modules tell hangs together, at drawn lots, by what they tell alone."""

import functools
import itertools
import unittest

from drawndown.backs import least_with, lots_to
from drawndown.bench import Bench
from drawndown.beside import by_steps, common_end, many_steps, most_steps
from drawndown.cubes import cube_product, cube_sign, cube_sum, whole_part
from drawndown.desk import Desk
from drawndown.errors import TooMany
from drawndown.least import by_length, by_weight, first_clash, has_none, is_clash, least_length, least_weight
from drawndown.lots import common, has_ended, is_lot
from drawndown.nearest import columns, errors, records, tops, worst
from drawndown.rounds import cube_round, cube_step, cube_table, cubes_alike, round_numbers, round_table
from drawndown.rules import run, step, step_table, tables_of, whole_table
from drawndown.shows import are_weights, base, is_base, is_relation, is_showing, showing, weights
from drawndown.tables import is_table, multiplied, one_number, times, turned_back
from drawndown.texts import read, written
from things import GREAT, RULES, Case, like_places, small_lots, some_lots

LOTS = list(small_lots(two=8, three=4, four=2)) + some_lots(61, 8, 99, 10 ** 12) + some_lots(62, 3, GREAT)


class Together(Case):
    def each(self):
        return [(rule, lot) for lot in LOTS for rule in RULES]

    def test_a_run_goes_step_by_step(self):
        for rule, lot in self.each():
            lots = run(rule, lot)
            self.assertEqual(lots[0], lot)
            self.assertEqual(lots[1:], [step(rule, ahead) for ahead in lots[:-1]])
            self.assertEqual([has_ended(each) for each in lots], [False] * (len(lots) - 1) + [True])
            self.assertEqual(tables_of(rule, lot), [step_table(rule, ahead) for ahead in lots[:-1]])

    def test_each_table_times_the_next_lot_is_the_lot_ahead(self):
        for rule, lot in self.each():
            lots, tables = run(rule, lot), tables_of(rule, lot)
            self.assertEqual(len(tables), len(lots) - 1)
            for ahead, table, behind in zip(lots, tables, lots[1:]):
                self.assertIs(is_lot(behind), True)
                self.assertIs(is_table(table), True)
                self.assertEqual(times(table, behind), ahead)
                self.assertEqual(times(turned_back(table), ahead), behind)
                self.assertIn(one_number(table), (1, -1))

    def test_the_product_times_the_last_lot_is_the_lot(self):
        for rule, lot in self.each():
            product, last = whole_table(rule, lot), run(rule, lot)[-1]
            self.assertEqual(product, functools.reduce(multiplied, tables_of(rule, lot), like_places(len(lot))))
            self.assertEqual(times(product, last), lot)
            self.assertEqual(times(turned_back(product), lot), last)
            self.assertIn(one_number(product), (1, -1))

    def test_the_common_stays_along_each_run(self):
        for rule, lot in self.each():
            for each in run(rule, lot):
                self.assertEqual(common(each), common(lot))
            self.assertEqual(max(each), common(lot))

    def test_a_number_that_divides_all_divides_what_is_left(self):
        for rule, lot in self.each():
            more = tuple(7 * number for number in lot)
            self.assertEqual(run(rule, more), [tuple(7 * number for number in each) for each in run(rule, lot)])
            self.assertEqual(tables_of(rule, more), tables_of(rule, lot))

    def test_weights_and_base_are_the_lines_of_the_product_turned_back(self):
        for rule, lot in self.each():
            last, lines = run(rule, lot)[-1], list(turned_back(whole_table(rule, lot)))
            at = [place for place, number in enumerate(last) if number != 0][0]
            self.assertEqual(weights(rule, lot), lines.pop(at))
            self.assertEqual(base(rule, lot), lines)

    def test_weights_make_the_common_and_relations_nought(self):
        for rule, lot in self.each():
            self.assertIs(are_weights(lot, weights(rule, lot)), True)
            self.assertIs(is_base(lot, base(rule, lot)), True)
            for line in base(rule, lot):
                self.assertIs(is_relation(lot, line), True)
                moved = tuple(one + other for one, other in zip(weights(rule, lot), line))
                self.assertIs(are_weights(lot, moved), True)

    def test_a_showing_shows_the_common(self):
        for rule, lot in self.each():
            shown = showing(rule, lot)
            self.assertIs(is_showing(lot, shown), True)
            self.assertEqual(shown[0], common(lot))
            self.assertEqual(tuple(shown[0] * quotient for quotient in shown[1]), lot)
            self.assertEqual(shown[2], weights(rule, lot))

    def test_columns_are_those_of_the_growing_products(self):
        for rule, lot in self.each():
            if lot[-1] != 0:
                products = list(itertools.accumulate(tables_of(rule, lot), multiplied))
                found = [column for product in products for column in zip(*product) if column[-1] != 0]
                self.assertEqual(columns(rule, lot), list(dict.fromkeys(found)))

    def test_a_part_is_made_of_its_top_and_its_error(self):
        for lot in LOTS:
            if lot[-1] != 0:
                for bottom, of_bottom in records(lot, 20):
                    self.assertEqual(worst(lot, bottom), of_bottom)
                    self.assertEqual(max(map(abs, errors(lot, bottom))), of_bottom)
                    for part, top, error in zip(lot, tops(lot, bottom), errors(lot, bottom)):
                        self.assertEqual(bottom * part, top * lot[-1] + error)

    def test_what_is_written_is_read(self):
        for rule, lot in self.each():
            for each in run(rule, lot)[:20]:
                self.assertEqual(read(written(each)), each)

    def test_the_least_relations_are_relations_and_none_of_a_base_is_less(self):
        for rule, lot in self.each():
            if max(lot) <= 1000:
                lines = [line for line in base(rule, lot) if any(line)]
                for line in by_weight(lot) + by_length(lot):
                    self.assertIs(is_relation(lot, line), True)
                    self.assertGreaterEqual(max(map(abs, line)), least_weight(lot))
                    self.assertGreaterEqual(sum(map(abs, line)), least_length(lot))
                self.assertLessEqual(least_weight(lot), min(max(map(abs, line)) for line in lines))
                self.assertLessEqual(least_length(lot), min(sum(map(abs, line)) for line in lines))

    def test_clashes_come_just_where_the_least_weight_is_no_more_than_the_number(self):
        for lot in LOTS:
            for number in (1, 2, 3, 5, 8) if max(lot) <= 1000 else ():
                clash = first_clash(lot, number)
                self.assertIs(clash is not None, least_weight(lot) <= number)
                self.assertIs(has_none(lot, number), clash is None)
                if clash is not None:
                    self.assertIs(is_clash(lot, number, clash), True)
                    apart = tuple(other - one for one, other in zip(*clash))
                    self.assertIs(is_relation(lot, apart), True)
                    self.assertLessEqual(max(map(abs, apart)), number)

    def test_whole_numbers_as_cube_numbers_turn_as_lots_do(self):
        for lot in LOTS:
            if len(lot) == 3:
                lots = [tuple((number, 0, 0) for number in each) for each in run("turn", lot)]
                self.assertEqual([cube_step(7, ahead) for ahead in lots[:-1]], lots[1:])
                self.assertEqual([cube_table(7, ahead) for ahead in lots[:-1]], tables_of("turn", lot))
                self.assertIsNone(cube_round(7, lots[0], 40))

    def test_a_round_is_made_of_its_steps(self):
        for root in (2, 3, 5, 7, 9, 10, 14, 26, 31, 43):
            most = 40
            lots = [((1, 0, 0), (0, 1, 0), (0, 0, 1))]
            ahead, steps = cube_round(root, lots[0], most)
            tables = []
            for count in range(ahead + steps):
                tables.append(cube_table(root, lots[-1]))
                lots.append(cube_step(root, lots[-1]))
            table = functools.reduce(multiplied, tables[ahead:])
            self.assertIs(cubes_alike(root, lots[ahead], lots[-1]), True)
            self.assertEqual(round_table(root, lots[0], most), table)
            self.assertEqual(round_numbers(root, lots[0], most)[2], one_number(table))
            for line, number in zip(table, lots[ahead]):
                parts = [cube_product(root, (many, 0, 0), part) for many, part in zip(line, lots[-1])]
                self.assertEqual(functools.reduce(functools.partial(cube_sum, root), parts), number)

    def test_a_cube_number_lies_between_its_whole_part_and_the_next_whole_number(self):
        for root, number in itertools.product((2, 7, 50), itertools.product((-9, -1, 0, 4), repeat=3)):
            whole = whole_part(root, number)
            self.assertGreaterEqual(cube_sign(root, cube_sum(root, number, (-whole, 0, 0))), 0)
            self.assertEqual(cube_sign(root, cube_sum(root, number, (-whole - 1, 0, 0))), -1)

    def test_the_lot_through_its_common_is_among_the_columns(self):
        for rule, lot in self.each():
            if lot[-1] != 0 and not has_ended(lot):
                self.assertIn(tuple(number // common(lot) for number in lot), columns(rule, lot))

    def test_the_rules_beside_one_another_have_their_runs(self):
        for lot in LOTS:
            steps = {rule: len(run(rule, lot)) - 1 for rule in RULES}
            self.assertEqual(dict(by_steps(lot)), steps)
            for one, other in itertools.product(RULES, repeat=2):
                self.assertEqual(many_steps(one, lot), steps[one])
                self.assertEqual(common_end(one, other, lot), common_end(other, one, lot))
                self.assertIn(common_end(one, other, lot), range(1, min(steps[one], steps[other]) + 2))

    def test_a_lot_comes_back_from_its_step(self):
        refused = 0
        for rule, lot in self.each():
            if not has_ended(lot) and max(lot) <= 30:
                for most in {max(lot), 20}:
                    try:
                        found = lots_to(rule, step(rule, lot), most)
                    except TooMany:
                        refused += 1
                        continue
                    self.assertIn(lot, found)
                    for ahead in found:
                        self.assertEqual(many_steps(rule, ahead), many_steps(rule, lot))
                    if max(lot) > 1:
                        self.assertNotIn(lot, lots_to(rule, step(rule, lot), max(lot) - 1))
        self.assertGreater(refused, 0)

    def test_a_lot_of_least_with_has_so_many_steps(self):
        for rule, size, steps in itertools.product(RULES, (2, 3), range(13)):
            lot = least_with(rule, size, steps)
            if lot is not None:
                self.assertEqual((len(lot), many_steps(rule, lot)), (size, steps))

    def test_the_most_steps_are_those_of_the_lots(self):
        for rule, size, number in itertools.product(RULES, (2, 3), range(1, 9)):
            steps, lots = most_steps(rule, size, number)
            self.assertEqual({many_steps(rule, lot) for lot in lots}, {steps})
            first = least_with(rule, size, steps)
            self.assertEqual(min(lots, key=lambda lot: (max(lot), lot)), first)

    def test_a_bench_run_down_has_the_last_lot_and_the_product(self):
        for rule, lot in self.each():
            bench = Bench()
            bench.lay(lot)
            bench.run(rule)
            self.assertEqual(bench.lot(), run(rule, lot)[-1])
            self.assertEqual(bench.tables(), tables_of(rule, lot))
            self.assertEqual(bench.product(), whole_table(rule, lot))
            self.assertEqual(times(bench.product(), bench.lot()), lot)

    def test_a_bench_goes_by_steps_as_by_a_run(self):
        for rule, lot in self.each()[::3]:
            bench = Bench()
            bench.lay(lot)
            for behind in run(rule, lot)[1:]:
                bench.step(rule)
                self.assertEqual(bench.lot(), behind)
            self.assertEqual(bench.product(), whole_table(rule, lot))
            for ahead in run(rule, lot)[-2::-1]:
                bench.back()
                self.assertEqual(bench.lot(), ahead)
            self.assertEqual(bench.tables(), [])

    def test_a_desk_tells_what_the_modules_tell(self):
        for rule, lot in self.each():
            if len(written(lot)) <= 296:
                desk = Desk()
                self.assertEqual(desk.say("lot " + written(lot)), "ok")
                self.assertEqual(desk.say("show"), written(lot))
                self.assertEqual(desk.say("common"), str(common(lot)))
                self.assertEqual(desk.say("weights " + rule), ":".join(map(str, weights(rule, lot))))
                self.assertEqual(desk.say("all " + rule), "ok")
                self.assertEqual(read(desk.say("show")), run(rule, lot)[-1])
                self.assertEqual(desk.say("steps"), str(many_steps(rule, lot)))


if __name__ == "__main__":
    unittest.main()
