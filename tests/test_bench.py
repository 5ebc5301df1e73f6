import random
import unittest

from bench_things import Book, some_deed
from drawndown.bench import Bench
from drawndown.errors import Ended, NoDeed, NoLot, NoRule, NoStep
from things import GREAT, RULES, Case, like_places, no_lots, no_rules, run_by_words, slow_lot, some_lots, table_by_words

FRESH = ((1, 0), [], ((1, 0), (0, 1)))


def state(bench):
    return bench.lot(), bench.tables(), bench.product()


class BenchCase(Case):
    def assert_state(self, bench, lot, tables, product):
        self.assertEqual(repr(state(bench)), repr((lot, tables, product)))
        self.assertEqual(repr(state(bench)), repr((lot, tables, product)))

    def assert_like(self, bench, book):
        self.assert_state(bench, *book.now(), book.product())

    def assert_done(self, call, *handed):
        self.assertIsNone(call(*handed))

    def assert_unchanged(self, error, bench, call, *handed):
        """That the call is refused, and the bench is as it was."""
        ahead = repr(state(bench))
        self.assert_refused(error, call, *handed)
        self.assertEqual(repr(state(bench)), ahead)

    def do(self, bench, book, name, handed):
        """One deed on the bench and in the book, with all that is told looked at behind it."""
        due = getattr(book, name)(*handed)
        if due is None:
            self.assert_done(getattr(bench, name), *handed)
        else:
            self.assert_unchanged(due, bench, getattr(bench, name), *handed)
        self.assert_like(bench, book)


class Interface(BenchCase):
    def test_arguments(self):
        self.assert_interface(Bench)
        bench = Bench()
        self.assert_interface(bench.lay, "lot")
        self.assert_interface(bench.step, "rule")
        self.assert_interface(bench.run, "rule")
        for call in (bench.back, bench.undo, bench.lot, bench.tables, bench.product):
            self.assert_interface(call)


class Deeds(BenchCase):
    def test_at_first(self):
        self.assert_state(Bench(), *FRESH)

    def test_by_hand(self):
        bench = Bench()
        self.assert_done(bench.lay, (12, 5))
        self.assert_state(bench, (12, 5), [], ((1, 0), (0, 1)))
        self.assert_done(bench.step, "next")
        self.assert_state(bench, (2, 5), [((1, 2), (0, 1))], ((1, 2), (0, 1)))
        self.assert_done(bench.step, "turn")
        self.assert_state(bench, (1, 2), [((1, 2), (0, 1)), ((0, 1), (1, 2))], ((2, 5), (1, 2)))
        self.assert_done(bench.run, "all")
        self.assert_state(bench, (1, 0), [((1, 2), (0, 1)), ((0, 1), (1, 2)), ((1, 0), (2, 1))], ((12, 5), (5, 2)))
        self.assert_done(bench.back)
        self.assert_state(bench, (1, 2), [((1, 2), (0, 1)), ((0, 1), (1, 2))], ((2, 5), (1, 2)))
        self.assert_done(bench.undo)
        self.assert_state(bench, (1, 0), [((1, 2), (0, 1)), ((0, 1), (1, 2)), ((1, 0), (2, 1))], ((12, 5), (5, 2)))
        self.assert_done(bench.undo)
        self.assert_state(bench, (1, 2), [((1, 2), (0, 1)), ((0, 1), (1, 2))], ((2, 5), (1, 2)))
        for count in range(3):
            self.assert_done(bench.undo)
        self.assert_state(bench, *FRESH)
        self.assert_unchanged(NoDeed, bench, bench.undo)

    def test_another_lot_has_no_tables_and_its_own_size(self):
        bench = Bench()
        for lot in [(6, 10, 15), (4, 6, 8, 10), (7, 3), (0, 0, GREAT)]:
            bench.lay((12, 5))
            bench.run("next")
            self.assert_done(bench.lay, lot)
            self.assert_state(bench, lot, [], like_places(len(lot)))

    def test_a_run_is_one_deed(self):
        for rule in RULES:
            for lot in some_lots(121, 4, 60, GREAT):
                bench = Bench()
                bench.lay(lot)
                bench.run(rule)
                lots = run_by_words(rule, lot)
                self.assertEqual(bench.lot(), lots[-1])
                self.assertEqual(bench.tables(), [table_by_words(rule, ahead) for ahead in lots[:-1]])
                bench.undo()
                self.assert_state(bench, lot, [], like_places(len(lot)))

    def test_a_run_goes_on_behind_the_steps_that_were_done(self):
        bench, book = Bench(), Book()
        for name, handed in [("lay", ((60, 37, 22),)), ("step", ("next",)), ("step", ("turn",)), ("run", ("least",))]:
            self.do(bench, book, name, handed)
        while book.now()[1]:
            self.do(bench, book, "back", ())
        self.assertEqual(bench.lot(), (60, 37, 22))
        self.do(bench, book, "back", ())

    def test_a_run_of_a_lot_that_has_ended_is_a_deed_all_the_same(self):
        bench = Bench()
        self.assert_done(bench.run, "all")
        self.assert_state(bench, *FRESH)
        self.assert_done(bench.undo)
        self.assert_state(bench, *FRESH)
        self.assert_unchanged(NoDeed, bench, bench.undo)
        bench.lay((0, 0, 5))
        bench.run("turn")
        bench.run("next")
        bench.undo()
        bench.undo()
        self.assert_state(bench, (0, 0, 5), [], like_places(3))
        bench.undo()
        self.assert_state(bench, *FRESH)

    def test_undo_behind_a_back_a_lay_and_a_step(self):
        bench = Bench()
        bench.lay((12, 5))
        bench.step("next")
        done = state(bench)
        bench.back()
        self.assert_state(bench, (12, 5), [], like_places(2))
        bench.undo()
        self.assert_state(bench, *done)
        bench.lay((1, 2, 3))
        bench.undo()
        self.assert_state(bench, *done)
        bench.step("all")
        bench.undo()
        self.assert_state(bench, *done)

    def test_undoing_is_no_deed_that_is_undone(self):
        bench = Bench()
        bench.lay((12, 5))
        bench.lay((3, 4))
        bench.undo()
        self.assertEqual(bench.lot(), (12, 5))
        bench.undo()
        self.assert_state(bench, *FRESH)
        self.assert_unchanged(NoDeed, bench, bench.undo)
        bench.lay((8, 9))
        bench.undo()
        self.assert_state(bench, *FRESH)
        self.assert_unchanged(NoDeed, bench, bench.undo)

    def test_back_where_there_is_no_table(self):
        bench = Bench()
        self.assert_unchanged(NoStep, bench, bench.back)
        bench.lay((12, 5))
        self.assert_unchanged(NoStep, bench, bench.back)
        bench.step("all")
        bench.back()
        self.assert_unchanged(NoStep, bench, bench.back)
        bench.run("all")
        bench.lay((12, 5))
        self.assert_unchanged(NoStep, bench, bench.back)

    def test_what_is_refused_is_no_deed(self):
        bench = Bench()
        bench.lay((12, 5))
        for call, handed in ((bench.lay, ((0, 0),)), (bench.step, ("first",)), (bench.run, (None,)), (bench.back, ())):
            with self.assertRaises(ValueError):
                call(*handed)
        bench.undo()
        self.assert_state(bench, *FRESH)
        self.assert_unchanged(NoDeed, bench, bench.undo)

    def test_more_than_thirty_deeds_all_undone_one_by_one(self):
        bench, states = Bench(), []
        lots = some_lots(122, 8, 1000)
        for at in range(120):
            states.append(state(bench))
            if at % 6 == 0:
                bench.lay(lots[at // 6])
            elif at % 6 == 4 and bench.tables():
                bench.back()
            elif at % 6 < 3 and list(bench.lot()).count(0) < len(bench.lot()) - 1:
                bench.step(RULES[at % 4])
            else:
                bench.run(RULES[at % 4])
        while states:
            bench.undo()
            self.assert_state(bench, *states.pop())
        self.assert_unchanged(NoDeed, bench, bench.undo)

    def test_long_rows_of_deeds_on_two_benches_at_once(self):
        for seed in range(30):
            dice = random.Random(1000 + seed)
            benches = [(Bench(), Book()), (Bench(), Book())]
            for count in range(120):
                bench, book = dice.choice(benches)
                self.do(bench, book, *some_deed(dice))
                for other, of_other in benches:
                    self.assert_like(other, of_other)
            for bench, book in benches:
                while len(book.pages) > 1:
                    self.do(bench, book, "undo", ())
                self.do(bench, book, "undo", ())
                self.assert_state(bench, *FRESH)

    def test_runs_of_many_steps(self):
        for rule in RULES:
            lot = slow_lot(3, 100)
            bench = Bench()
            bench.lay(lot)
            bench.run(rule)
            many = len(run_by_words(rule, lot)) - 1
            self.assertEqual(len(bench.tables()), many)
            for count in range(many):
                bench.back()
            self.assertEqual(bench.lot(), lot)


class Own(BenchCase):
    def test_the_told_list_is_the_askers_own(self):
        bench = Bench()
        bench.lay((60, 37, 22))
        self.assert_own_list(bench.tables)
        bench.step("next")
        bench.step("turn")
        self.assert_own_list(bench.tables)
        kept = bench.tables()
        ahead = repr(kept)
        bench.step("all")
        bench.back()
        bench.back()
        bench.lay((1, 2))
        bench.undo()
        self.assertEqual(repr(kept), ahead)

    def test_a_changed_list_changes_no_undoing(self):
        bench = Bench()
        bench.lay((60, 37, 22))
        bench.run("next")
        ahead = state(bench)
        bench.tables().clear()
        bench.back()
        bench.tables().append(None)
        bench.undo()
        self.assert_state(bench, *ahead)


class Refused(BenchCase):
    def test_what_is_no_lot(self):
        bench = Bench()
        bench.lay((12, 5))
        bench.step("next")
        for thing in no_lots():
            self.assert_unchanged(NoLot, bench, bench.lay, thing)
        bench.undo()
        self.assertEqual(bench.lot(), (12, 5))

    def test_what_is_no_rule_goes_ahead_of_ended(self):
        bench = Bench()
        ended = Bench()
        bench.lay((12, 5))
        for thing in no_rules():
            for each in (bench, ended):
                self.assert_unchanged(NoRule, each, each.step, thing)
                self.assert_unchanged(NoRule, each, each.run, thing)

    def test_a_step_of_a_lot_that_has_ended(self):
        for lot in [(1, 0), (0, 7), (0, 0, 5), (0, 0, 0, GREAT)]:
            bench = Bench()
            bench.lay(lot)
            for rule in RULES:
                self.assert_unchanged(Ended, bench, bench.step, rule)
        bench.lay((12, 5))
        bench.run("all")
        self.assert_unchanged(Ended, bench, bench.step, "all")


if __name__ == "__main__":
    unittest.main()
