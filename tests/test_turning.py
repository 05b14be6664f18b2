"""Point 50: refutations turned to derivations."""

import unittest

from chances import SMALL, Chances
from claimworlds.checking import all_lines, is_refutation, last_line, line_of
from claimworlds.clauses import clause_variables, filled_clause, literal_index, opposite_literal
from claimworlds.errors import NotRefutation, NotUnit
from claimworlds.fillings import Filling
from claimworlds.papers import Paper
from claimworlds.turning import turned_paper
from land import A, B, LAND, TRUTH, X, Y, clause, clauses, f, literal


class TestTurned(unittest.TestCase):

    def turns(self, texts, steps, first, wanted):
        """The last line of the turned paper has only opposites of the units, and is this clause."""
        given = clauses(*texts)
        self.assertTrue(is_refutation(LAND, given, Paper(steps)))
        made = turned_paper(LAND, given, Paper(steps), first)
        self.assertIsInstance(made, Paper)
        line = last_line(LAND, given[:first], made)
        self.assertTrue(set(line) <= {opposite_literal(unit[0]) for unit in given[first:]})
        self.assertEqual(line, clause(wanted))
        self.assertEqual(turned_paper(LAND, tuple(given), Paper(tuple(steps)), first).steps, made.steps)

    def test_no_unit_is_used(self):
        self.turns(["r", "false"], [("given", 1)], 2, "false")
        self.turns(["false", "r"], [("given", 0)], 1, "false")
        steps = [("given", 0), ("given", 1), ("replace", 0, 0, False, 1, 0, (0,)), ("drop", 2, 0)]
        self.turns(["r", "not r"], steps, 2, "false")
        self.turns(["r", "not r", "p(a)"], steps, 2, "false")

    def test_one_unit(self):
        steps = [("given", 0), ("given", 1), ("replace", 0, 0, False, 1, 0, (0,)), ("drop", 2, 0)]
        self.turns(["r", "not r"], steps, 1, "r")
        self.turns(["r", "not r"], steps, 0, "r | not r")
        swapped = [("given", 1), ("given", 0), ("replace", 0, 0, False, 1, 0, (0,)), ("drop", 2, 0)]
        self.turns(["not r", "r"], swapped, 1, "not r")
        self.turns(["not r", "r", "r"], swapped, 1, "not r")

    def test_equations_at_either_line_of_replace(self):
        # A positive equation at line i, and a negative one at line j.
        steps = [
            ("given", 1), ("given", 0), ("replace", 0, 0, False, 1, 0, (0, 0)), ("given", 2), ("replace", 2, 0, False, 3, 0, (0,)),
            ("drop", 4, 0),
        ]
        self.turns(["p(f(a))", "f(a) = b", "not p(b)"], steps, 1, "f(a) != b | p(b)")
        self.turns(["p(f(a))", "f(a) = b", "not p(b)"], steps, 2, "p(b)")
        steps = [
            ("given", 0), ("fill", 0, ((X, A),)), ("given", 1), ("replace", 1, 0, False, 2, 0, (0,)), ("drop", 3, 0),
        ]
        self.turns(["f(X:s) = X:s", "f(a) != a"], steps, 1, "f(a) = a")
        # The equation of the unit is used from `two` to `one`, in a unit.
        steps = [
            ("given", 1), ("given", 2), ("replace", 0, 0, True, 1, 0, (0, 0)), ("given", 0), ("fill", 3, ((X, f(A)),)),
            ("replace", 4, 0, False, 2, 0, (0,)), ("drop", 5, 0),
        ]
        self.turns(["p(X:s)", "f(a) = b", "not p(b)"], steps, 1, "f(a) != b | p(b)")

    def test_units_that_are_used_several_times(self):
        # A unit is filled, although it has no variables, and used twice.
        steps = [
            ("given", 1), ("fill", 0, ((X, B),)), ("given", 0), ("fill", 2, ((X, A), (Y, A))),
            ("replace", 1, 0, False, 3, 0, (0,)), ("drop", 4, 0),
        ]
        self.turns(["not p(X:s)", "p(a)"], steps, 1, "not p(a)")
        given = ["not p(X:s) | not q(X:s,Y:s)", "p(a)", "q(a,a)", "q(a,b)"]
        steps = [
            ("given", 0), ("fill", 0, ((X, A), (Y, A))), ("given", 1), ("replace", 2, 0, False, 1, 0, (0,)), ("drop", 3, 1),
            ("given", 2), ("replace", 5, 0, False, 4, 0, (0,)), ("drop", 6, 0),
        ]
        self.turns(given, steps, 1, "not p(a) | not q(a,a)")
        self.turns(given[:2] + ["p(b)"] + given[2:], [
            step if step != ("given", 2) else ("given", 3) for step in steps
        ], 1, "not p(a) | not q(a,a)")

    def test_all_kinds_of_steps(self):
        """`same`, `either`, `more`, and a line beside which the opposite of a unit stands already."""
        steps = [
            ("same", A), ("either", ("p", A), TRUTH), ("given", 1), ("replace", 2, 0, False, 1, 0, (0,)),
            ("drop", 3, 1), ("more", 4, literal("b != b")), ("drop", 5, 0),
            ("given", 0), ("replace", 6, 0, False, 7, 0, (0,)), ("drop", 8, 0),
        ]
        given = clauses("not p(a)", "p(a)")
        lines = []
        for step in steps:
            lines.append(line_of(LAND, given, lines, step))
        self.assertEqual(lines[-1], ())
        self.turns(["not p(a)", "p(a)"], steps, 1, "not p(a)")
        self.turns(["not p(a)", "p(a)"], steps, 0, "not p(a) | p(a)")

    def test_a_literal_that_is_the_opposite_of_a_unit(self):
        """The line that is made has literals that are opposites of the units by themselves."""
        steps = [
            ("given", 1), ("given", 0), ("replace", 0, 0, False, 1, 0, (0,)), ("drop", 2, 1), ("given", 2),
            ("replace", 4, 0, False, 3, 0, (0,)), ("drop", 5, 0),
        ]
        self.assertEqual(last_line(LAND, clauses("not p(a) | not r", "p(a)", "r"), Paper(steps[:4])), clause("not r"))
        self.turns(["not p(a) | not r", "p(a)", "r"], steps, 1, "not p(a) | not r")
        self.turns(["not p(a) | not r", "p(a)", "r", "r"], steps, 1, "not p(a) | not r")

    def test_units_of_the_truth(self):
        self.turns(["r", "true != true"], [("given", 1), ("drop", 0, 0)], 1, "true = true")
        steps = [("given", 1), ("given", 0), ("replace", 0, 0, False, 1, 0, (0,)), ("drop", 2, 0)]
        self.turns(["true != true", "true = true"], steps, 1, "false")

    def test_no_refutation(self):
        given = clauses("r", "not r", "false")
        for steps in ([], [("given", 0)], [("given", 2), ("given", 0)], [("given", 3)], [("snow",), ("given", 2)], [None]):
            self.assertRaises(NotRefutation, turned_paper, LAND, given, Paper(steps), 1)

    def test_no_units(self):
        for index, texts, first in (
            (1, ["false", "p(X:s)"], 1), (2, ["false", "r", "r | p(a)"], 1), (1, ["r", "false"], 0), (0, ["p(X:s)", "false"], 0),
            (2, ["false", "r", "X:s = Y:s", "r | p(a)"], 1),
        ):
            number = texts.index("false")
            with self.assertRaises(NotUnit) as caught:
                turned_paper(LAND, clauses(*texts), Paper([("given", number)]), first)
            self.assertEqual(caught.exception.index, index)

    def test_both_errors(self):
        self.assertRaises(NotRefutation, turned_paper, LAND, clauses("r", "p(X:s)"), Paper([("given", 0)]), 1)

    def test_chances(self):
        """Papers by chance that are made to refutations: their last lines, filled, are refuted by units."""
        chances = Chances(50)
        used = 0
        ground = [(variable, ("a",) if variable[1] == "s" else ("c",)) for variable in (("X", "s"), ("Y", "s"), ("X", "t"), ("W", "t"))]
        for _ in range(250):
            given = [chances.clause(3, 1) for _ in range(3)]
            first = len(given)
            units = [(chances.literal(1, ()),) for _ in range(3)]
            paper = chances.paper(given + units, chances.random.randint(1, 14))
            line = filled_clause(last_line(SMALL, given + units, paper), Filling(ground))
            steps = list(paper.steps) + [("fill", len(paper.steps) - 1, tuple(ground))]
            given = given + units + [(opposite_literal(one),) for one in line]
            lines = list(all_lines(SMALL, given, Paper(steps)))
            self.assertEqual((lines[-1], clause_variables(line)), (line, ()))
            for number, one in enumerate(line):
                at = len(steps) - 1
                index = literal_index(lines[at], one)
                unit = ("given", first + 3 + number)
                if one[0]:
                    more = [unit, ("replace", at, index, False, at + 1, 0, (0,))]
                else:
                    more = [unit, ("replace", at + 1, 0, False, at, index, (0,))]
                for step in more:
                    steps.append(step)
                    lines.append(line_of(SMALL, given, lines, step))
                void = literal_index(lines[-1], (False, one[2], one[2]))
                steps.append(("drop", len(steps) - 1, void))
                lines.append(line_of(SMALL, given, lines, steps[-1]))
                if len(lines[-1]) != len(line) - number - 1:
                    break
            if lines[-1] != ():
                continue
            made = turned_paper(SMALL, given, Paper(steps), first)
            found = last_line(SMALL, given[:first], made)
            self.assertTrue(set(found) <= {opposite_literal(unit[0]) for unit in given[first:]})
            used += len(found) > 0
        self.assertGreater(used, 100)


if __name__ == "__main__":
    unittest.main()
