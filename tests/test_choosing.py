"""Point 67: weights of clauses, and which waiting clause is taken next."""

import unittest

from chances import SMALL, Chances
from claimworlds.choosing import choose_next, clause_weight, drive_run
from claimworlds.orders import Order
from claimworlds.runs import Run
from land import LAND, PLAIN, TRUTH, clause, clauses


def run_of(*lines, selection="none", order=PLAIN):
    return Run(LAND, order, selection, clauses(*lines))


class TestWeights(unittest.TestCase):

    def test_weights(self):
        for line, weight in (
            ("false", 0), ("r", 2), ("not r", 2), ("p(a)", 3), ("a = b", 2), ("X:s != f(X:s)", 3), ("true = true", 2),
            ("p(a) | not p(f(a)) | a = b", 9),
        ):
            self.assertEqual(clause_weight(PLAIN, clause(line)), weight)
        heavy = Order(PLAIN.names, [9 if name == "a" else 2 for name in PLAIN.names])
        self.assertEqual(clause_weight(heavy, clause("p(a) | X:s = a | r")), 11 + 1 + 10 + 3)
        self.assertEqual(clause_weight(order=PLAIN, clause=((True, TRUTH, TRUTH),)), 2)


class TestNext(unittest.TestCase):

    def test_the_lightest_and_the_oldest(self):
        run = run_of("q(f(a),f(a))", "p(f(b))", "p(a)", "r", "p(b)", "q(a,b)")
        self.assertEqual(choose_next(run), 3)
        self.assertEqual(choose_next(run, beat=1), 0)
        self.assertEqual(choose_next(run, beat=2), 3)
        run.take(3)
        # Equal weights: the least number.
        self.assertEqual(choose_next(run), 2)
        self.assertEqual(choose_next(run, beat=2), 0)
        self.assertEqual(choose_next(run, beat=9), 2)
        run.take(2)
        self.assertEqual(choose_next(run), 0)
        self.assertEqual(choose_next(run, beat=2), 4)
        self.assertEqual(choose_next(run=run, beat=3), 0)

    def test_each_beat(self):
        lines = ["q(f(f(a)),f(f(a)))", "q(f(f(b)),f(f(b)))"] + [f"p({'f(' * depth}c{')' * depth})" for depth in range(12)]
        for beat in range(1, 10):
            run = run_of(*lines)
            for count in range(10):
                waiting = run.numbers("waiting")
                weights = [(clause_weight(PLAIN, run.known[number]), number) for number in waiting]
                wanted = waiting[0] if (count + 1) % beat == 0 else min(weights)[1]
                self.assertEqual(choose_next(run, beat=beat), wanted)
                run.take(wanted)

    def test_the_order_of_the_run(self):
        heavy = Order(PLAIN.names, [9 if name == "a" else 1 for name in PLAIN.names])
        self.assertEqual(choose_next(run_of("p(a)", "p(f(b))")), 0)
        self.assertEqual(choose_next(run_of("p(a)", "p(f(b))", order=heavy)), 1)

    def test_no_waiting_clause(self):
        self.assertIsNone(choose_next(run_of()))
        run = run_of("r")
        run.take(0)
        self.assertIsNone(choose_next(run))
        self.assertIsNone(choose_next(run, beat=1))

    def test_whatever_the_word(self):
        run = run_of("p(a)", "false", "r")
        self.assertEqual(run.word, "refuted")
        self.assertEqual(choose_next(run), 1)
        self.assertEqual(choose_next(run, beat=1), 0)


class TestDriving(unittest.TestCase):

    def test_rounds(self):
        run = run_of("p(a)", "p(b)", "p(c)", "r")
        self.assertEqual(drive_run(run, 0), "going")
        self.assertEqual(run.takes, 0)
        self.assertEqual(drive_run(run, 2), "going")
        self.assertEqual((run.takes, run.taken), (2, (0, 3)))
        self.assertEqual(drive_run(run=run, rounds=9, beat=1), "ended")
        self.assertEqual(run.deeds, (("take", 3), ("take", 0), ("take", 1), ("take", 2)))
        self.assertEqual(drive_run(run, 9), "ended")
        self.assertEqual(run.takes, 4)

    def test_a_run_that_is_over(self):
        run = run_of("r", "not r", "p(a)")
        self.assertEqual(drive_run(run, 400), "refuted")
        takes = run.takes
        self.assertEqual(drive_run(run, 400), "refuted")
        self.assertEqual(run.takes, takes)
        self.assertEqual(drive_run(run_of("false"), 0), "refuted")

    def test_it_takes_what_is_chosen(self):
        chances = Chances(67)
        for _ in range(40):
            made = [chances.clause(2, 2) for _ in range(5)]
            one = Run(SMALL, chances.order(), "first", made)
            two = one.twin()
            beat = chances.random.randint(1, 4)
            word = drive_run(one, 5, beat=beat)
            while two.takes < 5 and two.word == "going":
                two.take(choose_next(two, beat=beat))
            self.assertEqual((one.deeds, one.word), (two.deeds, word))


if __name__ == "__main__":
    unittest.main()
