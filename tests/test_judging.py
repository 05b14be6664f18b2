"""Points 68 and 69: endings of runs, and the judge of endings."""

import unittest

from chances import SMALL, Chances
from claimworlds.choosing import drive_run
from claimworlds.endings import Ending
from claimworlds.errors import NoSelection, NotEnded
from claimworlds.judging import is_ending
from claimworlds.papers import Paper
from claimworlds.runs import Run
from land import A, B, LAND, PLAIN, clause, clauses

LINES = ("f(f(X:s)) = X:s", "not p(X:s) | p(f(X:s))", "p(f(a)) | r", "r | q(f(f(a)),b) | b = a", "p(a) | r")


def ended_run(*lines, selection="first"):
    run = Run(LAND, PLAIN, selection, clauses(*lines))
    drive_run(run, 100)
    return run


class TestMaking(unittest.TestCase):

    def test_an_ending(self):
        run = ended_run(*LINES)
        self.assertEqual(run.word, "ended")
        ending = run.make_ending()
        self.assertIsInstance(ending, Ending)
        self.assertIs(ending.order, PLAIN)
        self.assertEqual(ending.selection, "first")
        self.assertEqual(ending.clauses, run.taken_clauses())
        self.assertEqual([address for address, _ in ending.reasons], [address for address, _ in run.all_reasons()])
        self.assertEqual(len(ending.covers), len(LINES))
        self.assertTrue(ending.reasons and run.numbers("thrown"))
        self.assertIs(is_ending(LAND, run.given, ending), True)
        self.assertIs(is_ending(vocabulary=LAND, given=list(run.given), ending=ending), True)

    def test_given_later(self):
        run = ended_run("r")
        run.give(clause("p(a) | r"))
        self.assertRaises(NotEnded, run.make_ending)
        drive_run(run, 9)
        ending = run.make_ending()
        self.assertEqual(len(ending.covers), 2)
        self.assertIs(is_ending(LAND, clauses("r", "p(a) | r"), ending), True)
        self.assertIs(is_ending(LAND, clauses("r"), ending), False)

    def test_no_clauses(self):
        ending = ended_run().make_ending()
        self.assertEqual((ending.clauses, ending.reasons, ending.covers), ((), (), ()))
        self.assertIs(is_ending(LAND, (), ending), True)

    def test_not_ended(self):
        going = Run(LAND, PLAIN, "none", clauses("r"))
        refuted = ended_run("r", "not r")
        stuck = Run(LAND, PLAIN, "first", clauses("p(f(X:s)) | r", "not p(f(a)) | q(a,a) | p(b)"), widest=2)
        drive_run(stuck, 9)
        self.assertEqual((going.word, refuted.word, stuck.word), ("going", "refuted", "stuck"))
        for run in (going, refuted, stuck):
            self.assertRaises(NotEnded, run.make_ending)

    def test_chances(self):
        chances = Chances(68)
        ended = 0
        for _ in range(300):
            given = [chances.clause(chances.random.choice([1, 2, 3]), 1) for _ in range(3)]
            run = Run(SMALL, chances.order(), chances.random.choice(["none", "first", "heaviest"]), given)
            if drive_run(run, 12) == "ended":
                ended += 1
                self.assertIs(is_ending(SMALL, given, run.make_ending()), True)
        self.assertGreater(ended, 30)


class TestJudging(unittest.TestCase):

    def setUp(self):
        self.run_of_all = ended_run(*LINES)
        self.given = self.run_of_all.given
        self.ending = self.run_of_all.make_ending()

    def changed(self, **fields):
        """The ending with other fields."""
        rows = {name: getattr(self.ending, name) for name in ("order", "selection", "clauses", "reasons", "covers")}
        rows.update(fields)
        return Ending(**rows)

    def judges(self, wanted, given=None, **fields):
        self.assertIs(is_ending(LAND, self.given if given is None else given, self.changed(**fields)), wanted)

    def test_the_ending_itself(self):
        self.judges(True)
        self.assertGreaterEqual(len(self.ending.reasons), 2)

    def test_the_empty_clause(self):
        # A paper of the empty clause covers everything, but it may not stand there.
        covers = []
        for goal in self.given:
            covers.append(Paper([("given", 0)] + [("more", line, literal) for line, literal in enumerate(goal)]))
        self.judges(False, clauses=[()], reasons=(), covers=covers)
        self.judges(False, clauses=self.ending.clauses + ((),))

    def test_values_that_are_no_clauses(self):
        for value in (None, 3, "r", ((True, A, B),), ((1, B, A),), clause("r") + clause("r"), ((True, ("d",), A),), (None,)):
            self.judges(False, clauses=self.ending.clauses + (value,))
            self.judges(False, clauses=(value,) + self.ending.clauses)

    def test_reasons_too_few_and_too_many(self):
        reasons = self.ending.reasons
        self.judges(False, reasons=())
        for index in range(len(reasons)):
            self.judges(False, reasons=reasons[:index] + reasons[index + 1:])
            self.judges(False, reasons=reasons[:index] + reasons[index:index + 1] + reasons[index:])
            self.judges(index == 0, reasons=reasons[:index] + reasons[:1] + reasons[index + 1:])
        self.judges(False, reasons=reasons + ((("reflect", 0, 0), reasons[0][1]),))

    def test_reasons_too_few_without_given_clauses(self):
        made = clauses("p(f(a)) | r", "not p(f(a))", "r")
        reasons = [(("replace", 0, 0, 0, 1, 0, (0,)), Paper([("given", 2)]))]
        for wanted, rows in ((False, []), (True, reasons), (False, reasons + reasons)):
            self.assertIs(is_ending(LAND, [], Ending(PLAIN, "none", made, rows, [])), wanted)

    def test_another_order_of_reasons(self):
        reasons = self.ending.reasons
        self.judges(False, reasons=reasons[::-1])
        self.judges(False, reasons=(reasons[1], reasons[0]) + reasons[2:])

    def test_other_addresses(self):
        (address, paper) = self.ending.reasons[0]
        self.assertEqual(address[0], "replace")
        for other in (
            address[:-1], address + (0,), (), ("reflect", 0, 0), ("snow",), ("factor",) + address[1:], None, 3, "replace",
            address[:6] + ((),), address[:6] + (None,), address[:6] + (address[6] + (0,),), (address,),
            address[:1] + (None,) + address[2:], address[:1] + ("0",) + address[2:], address[:1] + ((0,),) + address[2:],
        ):
            self.judges(False, reasons=((other, paper),) + self.ending.reasons[1:])
        for place in range(1, 6):
            for value in (-1, 99, bool(address[place]) if address[place] in (0, 1) else True, address[place] + 1):
                other = address[:place] + (value,) + address[place + 1:]
                self.judges(False, reasons=((other, paper),) + self.ending.reasons[1:])
        for number in (0, 1):
            if address[6] and address[6][0] == number:
                other = address[:6] + ((bool(number),) + address[6][1:],)
                self.judges(False, reasons=((other, paper),) + self.ending.reasons[1:])

    def test_papers_of_reasons_that_are_no_covers(self):
        for index, (address, paper) in enumerate(self.ending.reasons):
            for steps in (
                (), (None,), (("given", 99),), (("given", 0),), paper.steps[:-1], paper.steps + (("drop", 0, 99),), (("same", A),),
                paper.steps + (("given", 0),), paper.steps + (("more", len(paper.steps) - 1, clause("q(c,c)")[0]),),
            ):
                reasons = list(self.ending.reasons)
                reasons[index] = (address, Paper(steps))
                self.judges(False, reasons=reasons)

    def test_a_reason_with_a_leaf_above(self):
        """The conclusion follows from the clauses, but from one that is above it."""
        made = clauses("p(f(a)) | r", "not p(f(a))", "r")
        paper = Paper([("given", 0), ("given", 1), ("replace", 0, 0, False, 1, 0, (0,)), ("drop", 2, 1)])
        covers = [Paper([("given", number)]) for number in range(3)]
        for wanted, reason in ((False, paper), (True, Paper([("given", 2)]))):
            ending = Ending(PLAIN, "none", made, [(("replace", 0, 0, 0, 1, 0, (0,)), reason)], covers)
            self.assertIs(is_ending(LAND, made, ending), wanted)

    def test_covers_too_few_and_too_many(self):
        covers = self.ending.covers
        self.judges(False, covers=())
        self.judges(False, covers=covers[:-1])
        self.judges(False, covers=covers + covers[:1])
        self.judges(False, covers=covers[::-1])
        self.judges(True, given=list(self.given) + [self.given[0]], covers=covers + covers[:1])
        self.judges(False, given=self.given[1:])
        self.judges(True, given=self.given[1:], covers=covers[1:])
        self.judges(True, given=(), covers=())

    def test_papers_of_covers_that_are_no_covers(self):
        for index, paper in enumerate(self.ending.covers):
            for steps in ((), (None,), (("given", 99),), paper.steps[:-1], (("same", A),), paper.steps + (("same", B),)):
                covers = list(self.ending.covers)
                covers[index] = Paper(steps)
                self.judges(False, covers=covers)

    def test_another_order_and_selection(self):
        self.judges(False, selection="none")
        made = clauses("not p(a)", "p(X:s) | q(X:s,X:s)")
        covers = [Paper([("given", 0)]), Paper([("given", 1)])]
        self.assertIs(is_ending(LAND, made, Ending(PLAIN, "none", made, (), covers)), True)
        heavy = type(PLAIN)(("q",) + tuple(name for name in PLAIN.names if name != "q"), [1] * len(PLAIN.names))
        self.assertIs(is_ending(LAND, made, Ending(heavy, "none", made, (), covers)), True)
        heavy = type(PLAIN)(PLAIN.names, [9 if name == "p" else 1 for name in PLAIN.names])
        self.assertIs(is_ending(LAND, made, Ending(heavy, "none", made, (), covers)), False)

    def test_no_error_for_what_is_judged(self):
        self.assertRaises(NoSelection, Run, LAND, PLAIN, "last", ())
        for value in (Paper([None]), Paper([("fill", 0, None)]), Paper([(("given",), 0)])):
            self.judges(False, covers=[value] * len(self.given))


if __name__ == "__main__":
    unittest.main()
