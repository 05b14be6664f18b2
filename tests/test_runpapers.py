"""Points 64 to 66: papers and covers of runs, reasons, carried papers, bridges."""

import unittest

from chances import SMALL, Chances
from claimworlds.bridging import bridge_runs
from claimworlds.checking import last_line
from claimworlds.choosing import choose_next, drive_run
from claimworlds.covering import is_cover
from claimworlds.errors import BadStep, GivenDiffer
from claimworlds.papers import Paper
from claimworlds.runs import Run
from land import LAND, PLAIN, clause, clauses
from runchecks import check_run

GROUP = (
    "g(a,X:s) = X:s", "g(f(X:s),X:s) = a", "g(g(X:s,Y:s),Z:s) = g(X:s,g(Y:s,Z:s))", "not p(X:s) | p(f(X:s))", "p(b)",
)


def run_of(*lines, selection="none", **bounds):
    return Run(LAND, PLAIN, selection, clauses(*lines), **bounds)


def chance_run(chances):
    given = [chances.clause(chances.random.choice([1, 1, 2, 3]), 2) for _ in range(chances.random.randint(1, 6))]
    widest, largest = chances.random.choice([(8, 40), (2, 6)])
    return Run(SMALL, chances.order(), chances.random.choice(["none", "first", "heaviest"]), given, widest=widest, largest=largest)


class TestPapersOfRuns(unittest.TestCase):

    def test_at_each_moment(self):
        for selection in ("none", "first"):
            run = run_of(*GROUP, selection=selection)
            check_run(self, run)
            for _ in range(15):
                run.take(choose_next(run))
                check_run(self, run)
            self.assertTrue(run.numbers("thrown"))

    def test_until_the_empty_clause(self):
        run = run_of(*(GROUP[:3] + ("f(f(c)) != c",)))
        while run.word == "going":
            run.take(choose_next(run))
            check_run(self, run)
        self.assertEqual(run.word, "refuted")
        number = run.known.index(())
        self.assertEqual(last_line(LAND, run.given, run.paper_for(number)), ())
        # Everything is covered by what is kept also now.
        run.give(clause("p(a)"))
        check_run(self, run)

    def test_a_chain_of_thrown_clauses(self):
        """Each clause that is thrown is covered by clauses that are thrown later."""
        run = run_of("p(f(f(f(a))))", "f(X:s) = c", "c = b", "b = a", "p(X:s)")
        for number in range(4):
            run.take(number)
            check_run(self, run)
        while run.word == "going":
            run.take(run.numbers("waiting")[0])
            check_run(self, run)
        self.assertEqual(run.kept_clauses()[-1:], tuple(clauses("f(X:s) = a")))

    def test_chances(self):
        chances = Chances(64)
        for _ in range(120):
            run = chance_run(chances)
            while run.word == "going" and len(run.known) < 40 and run.takes < 10:
                run.take(choose_next(run) if chances.random.random() < 0.7 else chances.random.choice(run.numbers("waiting")))
            check_run(self, run)


class TestCarried(unittest.TestCase):

    def carries(self, run, paper):
        made = run.carried(paper)
        self.assertIsInstance(made, Paper)
        self.assertEqual(last_line(run.vocabulary, run.kept_clauses(), made), last_line(run.vocabulary, run.given, paper))

    def test_papers_from_the_given_clauses(self):
        run = run_of("p(f(a)) | r", "f(a) = b", "not p(b)", "r | q(a,a)")
        steps = [
            ("given", 1), ("given", 0), ("replace", 0, 0, False, 1, 0, (0, 0)), ("given", 2), ("replace", 2, 0, False, 3, 0, (0,)),
            ("drop", 4, 1), ("given", 0), ("more", 5, clause("p(c)")[0]),
        ]
        self.assertEqual(last_line(LAND, run.given, Paper(steps[:6])), clause("r"))
        while True:
            for count in range(1, len(steps) + 1):
                self.carries(run, Paper(steps[:count]))
            if run.word != "going":
                break
            run.take(choose_next(run))
        self.assertTrue(run.numbers("thrown"))

    def test_no_refutation_is_lost(self):
        run = run_of(*(GROUP[:3] + ("f(f(c)) != c",)))
        twin = run.twin()
        drive_run(run, 100)
        refutation = run.paper_for(run.known.index(()))
        while twin.word == "going":
            twin.take(twin.numbers("waiting")[-1] if twin.takes < 3 else choose_next(twin))
            self.carries(twin, refutation)

    def test_clauses_that_were_given_later(self):
        """Their indexes in `given` are not their numbers."""
        run = run_of("not p(X:s) | r", "p(a)", selection="first")
        run.take(0)
        run.take(1)
        run.give(clause("q(a,b)"))
        self.assertEqual((run.known[3], run.given[2]), (clause("q(a,b)"), clause("q(a,b)")))
        self.carries(run, Paper([("given", 2)]))
        self.carries(run, Paper([("given", 1), ("given", 2), ("more", 1, clause("r")[0])]))
        drive_run(run, 9)
        self.carries(run, Paper([("given", 2)]))

    def test_bad_steps(self):
        run = run_of("p(f(a))", "f(a) = b")
        drive_run(run, 9)
        for index, steps in ((0, [("given", 2)]), (1, [("given", 0), ("drop", 0, 0)]), (0, [None]), (1, [("given", 1), ("given", len(run.known))])):
            with self.assertRaises(BadStep) as caught:
                run.carried(Paper(steps))
            self.assertEqual(caught.exception.index, index)

    def test_chances(self):
        chances = Chances(65)
        for _ in range(120):
            run = chance_run(chances)
            drive_run(run, chances.random.randint(0, 4))
            self.carries(run, chances.paper(run.given, chances.random.randint(1, 15)))


class TestBridges(unittest.TestCase):

    def bridges(self, one, two):
        made = bridge_runs(one, two)
        self.assertIsInstance(made, tuple)
        self.assertEqual(len(made), len(two.kept))
        for paper, wanted in zip(made, two.kept_clauses()):
            self.assertEqual(last_line(one.vocabulary, one.kept_clauses(), paper), wanted)

    def test_runs_that_took_different_ways(self):
        one, two = run_of(*GROUP), run_of(*GROUP, selection="first", largest=8)
        self.bridges(one, two)
        for _ in range(4):
            one.take(choose_next(one))
            two.take(two.numbers("waiting")[-1])
            self.bridges(one, two)
            self.bridges(two, one)
            self.bridges(one, one)
        self.assertNotEqual(one.known, two.known)

    def test_given_later(self):
        one, two = run_of("r", "p(f(a))"), run_of("r")
        self.assertRaises(GivenDiffer, bridge_runs, one, two)
        two.take(0)
        two.give(clause("p(f(a))"))
        self.bridges(one, two)
        self.bridges(two, one)

    def test_given_clauses_that_differ(self):
        one = run_of("r", "p(a)")
        for lines in (("p(a)", "r"), ("r",), ("r", "p(a)", "p(a)"), ("r", "p(b)"), ()):
            two = run_of(*lines)
            self.assertRaises(GivenDiffer, bridge_runs, one, two)
            self.assertRaises(GivenDiffer, bridge_runs, two, one)
        self.assertEqual(bridge_runs(one=run_of(), two=run_of()), ())

    def test_runs_that_are_over(self):
        one, two = run_of("r", "not r", "p(a)"), run_of("r", "not r", "p(a)")
        drive_run(one, 9)
        self.bridges(one, two)
        self.bridges(two, one)

    def test_chances(self):
        chances = Chances(66)
        for _ in range(60):
            one = chance_run(chances)
            two = one.twin()
            drive_run(one, chances.random.randint(0, 4))
            drive_run(two, chances.random.randint(0, 4), beat=1)
            self.bridges(one, two)
            self.bridges(two, one)


class TestReasons(unittest.TestCase):

    def test_addresses_and_conclusions(self):
        """The address counts taken clauses, and the conclusion is the one that `step_at` gives."""
        run = run_of("q(a,a) | p(c)", "not p(X:s) | r", "q(b,b)", "p(f(a))", selection="first")
        for number, wanted in ((1, []), (3, [("replace", 1, 0, 0, 0, 0, (0,))]), (0, [("replace", 2, 0, 0, 1, 0, (0,))])):
            run.take(number)
            self.assertEqual([address for address, _ in run.all_reasons()], wanted)
            check_run(self, run)
        self.assertEqual(run.taken, (0, 1, 3))

    def test_an_empty_run(self):
        self.assertEqual(run_of().all_reasons(), ())
        self.assertEqual(run_of("r").all_reasons(), ())

    def test_a_cover_from_the_kept_clauses(self):
        run = run_of("p(X:s) | r", "not p(a)")
        run.take(0)
        run.take(1)
        ((address, paper),) = run.all_reasons()
        self.assertEqual(address, ("replace", 0, 0, 0, 1, 0, (0,)))
        self.assertIs(is_cover(LAND, PLAIN, run.kept_clauses(), paper, clause("r")), True)


if __name__ == "__main__":
    unittest.main()
