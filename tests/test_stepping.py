"""Points 53 to 56: steps between clauses, and their papers."""

import unittest

from chances import SMALL, Chances
from claimworlds.checking import all_lines, last_line
from claimworlds.clauses import clause_variables, filled_literals
from claimworlds.clausetexts import clause_text
from claimworlds.errors import NoSelection
from claimworlds.fillings import Filling
from claimworlds.insides import are_variants
from claimworlds.orders import Order
from claimworlds.papers import Paper
from claimworlds.stepping import Step, all_steps, step_at, steps_with
from claimworlds.steppapers import step_paper
from claimworlds.terms import part_at, sort_of
from land import A, B, C, LAND, PLAIN, X, Y, clause, clauses, f, literal
from plainsteps import PlainSteps, addresses
from samples import GRAPH


def fields(step):
    return (step.address, step.conclusion, step.main, step.first, step.second)


class StepCase(unittest.TestCase):

    def at(self, texts, address, selection="none", order=PLAIN):
        made = clauses(*texts)
        step = step_at(LAND, order, selection, made, address)
        if step is None:
            self.assertNotIn(address, [other.address for other in all_steps(LAND, order, selection, made)])
            return None
        self.assertIsInstance(step, Step)
        self.assertEqual(step.address, address)
        self.check_fillings(made, step)
        self.check_paper(made, step)
        found = [other for other in all_steps(LAND, order, selection, made) if other.address == address]
        self.assertEqual([fields(other) for other in found], [fields(step)])
        return step

    def check_fillings(self, made, step):
        first, second = Filling(step.first), Filling(step.second)
        self.assertEqual((first.pairs, second.pairs), (step.first, step.second))
        one = made[step.address[1]]
        self.assertTrue({pair[0] for pair in step.first} <= set(clause_variables(one)))
        if step.address[0] == "replace":
            _, _, a, s, j, b, place = step.address
            self.assertTrue({pair[0] for pair in step.second} <= set(clause_variables(made[j])))
            self.assertEqual(step.main, filled_literals(made[j], second))
            self.assertEqual(first(one[a][1 + s]), second(part_at(made[j][b][1 + place[0]], place[1:])))
        else:
            self.assertEqual(step.second, ())
            self.assertEqual(step.main, filled_literals(one, first))

    def check_paper(self, made, step, vocabulary=LAND):
        paper = step_paper(vocabulary, made, step)
        self.assertIsInstance(paper, Paper)
        self.assertEqual(last_line(vocabulary, made, paper), step.conclusion)
        self.assertEqual(len(all_lines(vocabulary, tuple(made), paper)), len(paper.steps))

    def steps(self, wanted, texts, address, selection="none", order=PLAIN):
        """There is a step, and its conclusion is a variant of this clause; none if it is None."""
        step = self.at(texts, address, selection, order)
        if wanted is None:
            self.assertIsNone(step)
        else:
            self.assertIsNotNone(step)
            self.assertTrue(are_variants(step.conclusion, clause(wanted)), clause_text(step.conclusion))


class TestReflect(StepCase):

    def test_ordinary(self):
        self.steps("false", ["a != a"], ("reflect", 0, 0))
        self.steps("false", ["X:s != Y:s"], ("reflect", 0, 0))
        self.steps("false", ["r", "true != true"], ("reflect", 1, 0))
        self.steps("r", ["f(X:s) != f(a) | r"], ("reflect", 0, 0))
        step = self.at(["f(X:s) != f(a) | p(X:s)"], ("reflect", 0, 0), "first")
        self.assertEqual((step.first, step.second), (((X, A),), ()))
        self.assertEqual(step.main, ((False, f(A), f(A)), literal("p(a)")))
        self.assertEqual(step.conclusion, clause("p(a)"))

    def test_no_step(self):
        self.steps(None, ["a = a"], ("reflect", 0, 0))
        self.steps(None, ["a != b"], ("reflect", 0, 0))
        self.steps(None, ["f(X:s) != X:s"], ("reflect", 0, 0))
        self.steps(None, ["not r"], ("reflect", 0, 0))
        self.steps(None, ["not p(X:s)"], ("reflect", 0, 0))

    def test_another_literal_above(self):
        text = ["X:s != a | q(X:s,b)"]
        self.assertEqual(clause(text[0])[0], literal("X:s != a"))
        self.steps(None, text, ("reflect", 0, 0))
        self.steps("q(a,b)", text, ("reflect", 0, 0), "first")
        self.steps("q(a,b)", text, ("reflect", 0, 0), "heaviest")
        # It is the filled literals that count: p(X) is not above f(X) != f(a), but p(a) is.
        self.steps(None, ["f(X:s) != f(a) | p(X:s)"], ("reflect", 0, 0))
        # Open literals are not above.
        self.assertEqual(PLAIN.compare_literals(literal("f(f(a)) != f(f(a))"), literal("p(Y:s)")), "open")
        self.steps("p(Y:s)", ["f(f(X:s)) != f(f(a)) | p(Y:s)"], ("reflect", 0, 0))

    def test_literals_that_become_equal(self):
        """A literal that becomes the same is not above, and is left out together."""
        text = ["g(X:s,a) != g(a,Y:s) | g(X:s,X:s) != g(Y:s,Y:s)"]
        self.steps("false", text, ("reflect", 0, 1))
        self.steps("g(a,X:s) != g(X:s,a)", text, ("reflect", 0, 0))
        self.steps("false", ["f(X:s) != f(a) | f(X:s) != f(X:s)"], ("reflect", 0, 1))
        self.steps("false", ["f(X:s) != f(a) | f(a) != f(X:s)"], ("reflect", 0, 0))
        self.steps("p(a)", ["f(X:s) != f(a) | p(X:s) | p(a)"], ("reflect", 0, 0), "first")

    def test_selection(self):
        text = "f(X:s) != f(a) | g(X:s,Y:s) != g(b,b)"
        self.assertEqual([one[1][0] for one in clause(text)], ["f", "g"])
        self.steps("g(a,Y:s) != g(b,b)", [text], ("reflect", 0, 0), "first")
        self.steps(None, [text], ("reflect", 0, 1), "first")
        self.steps(None, [text], ("reflect", 0, 0), "heaviest")
        self.steps("f(b) != f(a)", [text], ("reflect", 0, 1), "heaviest")
        self.steps(None, [text], ("reflect", 0, 0))
        self.steps("f(b) != f(a)", [text], ("reflect", 0, 1))

    def test_negative_literals_that_get_equal_sides(self):
        self.steps("r", ["X:s != a | a != a | r"], ("reflect", 0, 0), "first")
        self.steps("r", ["f(X:s) != f(a) | g(X:s,b) != g(a,b) | r"], ("reflect", 0, 0), "first")
        self.steps("f(a) = f(a)", ["X:s != a | f(X:s) = f(a)"], ("reflect", 0, 0), "first")


class TestFactor(StepCase):

    def test_ordinary(self):
        self.steps("p(X:s)", ["p(X:s) | p(Y:s)"], ("factor", 0, 0, 0, 1, 0))
        self.steps("p(X:s)", ["p(X:s) | p(Y:s)"], ("factor", 0, 1, 0, 0, 0))
        self.steps("p(a)", ["p(X:s) | p(a)"], ("factor", 0, 0, 0, 1, 0))
        text = ["f(a) = a | f(a) = b"]
        self.assertEqual(clause(text[0])[1], literal("f(a) = b"))
        self.steps("f(a) = a | a != b", text, ("factor", 0, 1, 0, 0, 0))
        self.steps(None, text, ("factor", 0, 0, 0, 1, 0))
        step = self.at(["f(X:s) = a | f(b) = Y:s"], ("factor", 0, 0, 0, 1, 0))
        self.assertEqual((step.first, step.second), (((X, B),), ()))
        self.assertTrue(are_variants(step.conclusion, clause("f(b) = Y:s | a != Y:s")))

    def test_rests_that_are_the_same(self):
        self.steps("f(a) = b", ["f(X:s) = b | f(a) = b"], ("factor", 0, 0, 0, 1, 0))
        self.steps("f(a) = b | r", ["f(X:s) = b | f(a) = b | r"], ("factor", 0, 0, 0, 1, 0))

    def test_sides(self):
        text = ["f(X:s) = g(a,Y:s) | f(b) = g(Z:s,b)"]
        self.assertEqual([one[1][0] for one in clause(text[0])], ["g", "g"])
        for a in (0, 1):
            for s in (0, 1):
                for t in (0, 1):
                    step = self.at(text, ("factor", 0, a, s, 1 - a, t))
                    self.assertEqual(step is not None, (s, t) == (0, 0))
        # Here b is heavier than f(a), so the side `two` is the head.
        order = Order(PLAIN.names, [9 if name == "b" else 1 for name in PLAIN.names])
        text = ["f(a) = b | f(c) = b"]
        self.assertEqual(clause(text[0]), ((True, f(A), B), (True, f(C), B)))
        self.steps(None, text, ("factor", 0, 1, 0, 0, 0), order=order)
        self.steps("f(a) = b | f(c) != f(a)", text, ("factor", 0, 1, 1, 0, 1), order=order)
        self.steps(None, text, ("factor", 0, 0, 1, 1, 1), order=order)

    def test_either_side_of_the_other_literal(self):
        text = ["X:s = a | Y:s = b"]
        found = [step.address[2:] for step in all_steps(LAND, PLAIN, "none", clauses(*text)) if step.address[0] == "factor"]
        self.assertEqual(found, [(0, 0, 1, 1), (0, 1, 1, 0), (1, 0, 0, 1), (1, 1, 0, 1)])
        for address in found:
            self.assertIsNotNone(self.at(text, ("factor", 0) + address))

    def test_no_step(self):
        self.steps(None, ["p(a) | p(b)"], ("factor", 0, 0, 0, 1, 0))
        self.steps(None, ["p(X:s) | not p(a)"], ("factor", 0, 1, 0, 0, 0))
        self.steps(None, ["p(X:s) | not p(a)"], ("factor", 0, 0, 0, 1, 0))
        self.steps(None, ["p(X:s) | q(a,Y:s)"], ("factor", 0, 0, 0, 1, 0))
        self.steps(None, ["p(X:s) | X:s = a"], ("factor", 0, 0, 0, 1, 0))
        self.steps(None, ["p(X:s) | X:s = a"], ("factor", 0, 1, 0, 0, 0))

    def test_the_truth(self):
        for s, t in ((0, 1), (1, 0), (1, 1)):
            for text in ("p(X:s) | q(a,Y:s)", "p(X:s) | p(Y:s)", "p(X:s) | true = true"):
                self.steps(None, [text], ("factor", 0, 0, s, 1, t))
                self.steps(None, [text], ("factor", 0, 1, s, 0, t))
        self.steps(None, ["p(X:s) | true = true"], ("factor", 0, 1, 0, 0, 0))

    def test_another_literal_above(self):
        self.steps(None, ["p(X:s) | p(Y:s) | q(X:s,Y:s)"], ("factor", 0, 0, 0, 1, 0))
        self.steps("p(X:s) | r", ["p(X:s) | p(Y:s) | r"], ("factor", 0, 0, 0, 1, 0))
        # Only the filled literals tell: q(X,b) is open to p(Y), but q(a,b) is above p(a).
        self.steps(None, ["p(X:s) | p(a) | q(X:s,b)"], ("factor", 0, 0, 0, 1, 0))

    def test_a_selected_literal(self):
        self.steps("p(X:s) | not r", ["p(X:s) | p(Y:s) | not r"], ("factor", 0, 0, 0, 1, 0))
        self.steps(None, ["p(X:s) | p(Y:s) | not r"], ("factor", 0, 0, 0, 1, 0), "first")
        self.steps(None, ["p(X:s) | p(Y:s) | not r"], ("factor", 0, 0, 0, 1, 0), "heaviest")
        self.steps("p(X:s)", ["p(X:s) | p(Y:s)"], ("factor", 0, 0, 0, 1, 0), "first")

    def test_the_rest_above_the_side_or_the_same(self):
        self.assertEqual(clause("f(a) = b | f(a) = c"), (literal("f(a) = b"), literal("f(a) = c")))
        self.steps("f(a) = b | b != c", ["f(a) = b | f(a) = c"], ("factor", 0, 1, 0, 0, 0))
        self.steps(None, ["f(a) = b | f(b) = b"], ("factor", 0, 1, 1, 0, 1))
        self.steps(None, ["a = a | X:s = a"], ("factor", 0, 1, 0, 0, 0))
        # X is open to a and a to X, but only the filled sides tell: filled by f(b), X is above a.
        text = ["X:s = c | f(b) = a"]
        self.assertEqual(clause(text[0])[0], (True, C, X))
        self.steps("f(b) = a | a != c", text, ("factor", 0, 0, 1, 1, 0))
        text = ["X:s = f(a) | b = c"]
        self.assertEqual(clause(text[0])[1], (True, f(A), X))
        self.steps(None, text, ("factor", 0, 1, 1, 0, 1))


class TestReplace(StepCase):

    def test_atoms(self):
        self.steps("false", ["r", "not r"], ("replace", 0, 0, 0, 1, 0, (0,)))
        self.steps("r", ["p(X:s) | r", "not p(a)"], ("replace", 0, 0, 0, 1, 0, (0,)))
        self.steps("r", ["p(a) | r", "not p(X:s)"], ("replace", 0, 0, 0, 1, 0, (0,)))
        self.steps(None, ["r", "not r"], ("replace", 0, 0, 1, 1, 0, (0,)))
        self.steps(None, ["r", "not r"], ("replace", 0, 0, 1, 1, 0, (1,)))
        self.steps(None, ["r", "not r"], ("replace", 0, 0, 0, 1, 0, (1,)))
        self.steps(None, ["not r", "r"], ("replace", 0, 0, 0, 1, 0, (0,)))
        self.steps(None, ["r", "p(a)"], ("replace", 0, 0, 0, 1, 0, (0,)))
        self.steps(None, ["r", "a != a"], ("replace", 0, 0, 0, 1, 0, (0,)))
        self.steps(None, ["true = true", "true != true"], ("replace", 0, 0, 0, 1, 0, (0,)))

    def test_terms_at_places(self):
        self.steps("p(b)", ["f(a) = b", "p(f(a))"], ("replace", 0, 0, 0, 1, 0, (0, 0)))
        self.steps("p(a)", ["f(X:s) = X:s", "p(f(a))"], ("replace", 0, 0, 0, 1, 0, (0, 0)))
        self.steps("p(b)", ["f(a) = b", "p(f(X:s))"], ("replace", 0, 0, 0, 1, 0, (0, 0)))
        self.steps(None, ["f(a) = b", "p(f(X:s))"], ("replace", 0, 0, 0, 1, 0, (0, 0, 0)))
        self.steps(None, ["f(a) = b", "p(X:s)"], ("replace", 0, 0, 0, 1, 0, (0, 0)))
        self.steps("g(a,b) != a", ["f(a) = b", "g(a,f(a)) != a"], ("replace", 0, 0, 0, 1, 0, (0, 1)))
        self.steps(None, ["f(a) = b", "g(a,f(a)) != a"], ("replace", 0, 0, 0, 1, 0, (0, 0)))
        self.steps(None, ["f(a) = b", "g(a,f(a)) != a"], ("replace", 0, 0, 0, 1, 0, (0,)))
        self.steps(None, ["f(a) = b", "p(f(b))"], ("replace", 0, 0, 0, 1, 0, (0, 0)))
        self.steps("p(g(f(b),a))", ["f(a) = b", "p(g(f(f(a)),a))"], ("replace", 0, 0, 0, 1, 0, (0, 0, 0, 0)))

    def test_sides(self):
        # The head is the side `two`, since b is heavier than f(a).
        order = Order(PLAIN.names, [9 if name == "b" else 1 for name in PLAIN.names])
        self.assertEqual(literal("f(a) = b"), (True, f(A), B))
        self.steps("p(f(a))", ["f(a) = b", "p(b)"], ("replace", 0, 0, 1, 1, 0, (0, 0)), order=order)
        self.steps(None, ["f(a) = b", "p(f(a))"], ("replace", 0, 0, 0, 1, 0, (0, 0)), order=order)
        # A place in the side `two` of the other literal, and the sides of the result the other way round.
        self.assertEqual(literal("f(a) != b"), (False, f(A), B))
        self.assertEqual(literal("b = a"), (True, B, A))
        self.steps("f(a) != a", ["b = a", "f(a) != b"], ("replace", 0, 0, 0, 1, 0, (1,)), order=order)

    def test_the_rest_above_the_side_or_the_same(self):
        self.steps(None, ["f(a) = b", "p(b)"], ("replace", 0, 0, 1, 1, 0, (0, 0)))
        self.steps(None, ["a = a", "p(a)"], ("replace", 0, 0, 0, 1, 0, (0, 0)))
        # Open sides may be heads; the filled ones tell.
        self.steps(None, ["g(X:s,Y:s) = g(Y:s,X:s)", "p(g(a,a))"], ("replace", 0, 0, 0, 1, 0, (0, 0)))
        for s in (0, 1):
            self.steps("p(g(a,b))", ["g(X:s,Y:s) = g(Y:s,X:s)", "p(g(b,a))"], ("replace", 0, 0, s, 1, 0, (0, 0)))
            self.steps(None, ["g(X:s,Y:s) = g(Y:s,X:s)", "p(g(a,b))"], ("replace", 0, 0, s, 1, 0, (0, 0)))

    def test_the_other_side_of_the_place(self):
        self.steps(None, ["f(a) = b", "g(a,a) != f(a)"], ("replace", 0, 0, 0, 1, 0, (1,)))
        self.steps("g(b,a) != f(a)", ["f(a) = b", "g(f(a),a) != f(a)"], ("replace", 0, 0, 0, 1, 0, (0, 0)))
        self.steps(None, ["f(a) = b", "f(a) != f(a)"], ("replace", 0, 0, 0, 1, 0, (0,)))
        self.steps(None, ["f(a) = b", "f(a) != f(a)"], ("replace", 0, 0, 0, 1, 0, (1,)))
        # Only the filled sides tell: f(a) and f(X) are open, but X may become a.
        self.assertEqual(literal("f(X:s) != f(a)")[1], f(A))
        self.steps("b != f(X:s)", ["f(a) = b", "f(X:s) != f(a)"], ("replace", 0, 0, 0, 1, 0, (0,)))
        self.steps(None, ["f(a) = b", "f(X:s) != f(a)"], ("replace", 0, 0, 0, 1, 0, (1,)))

    def test_other_literals_of_clause_i(self):
        self.steps(None, ["p(X:s) | q(X:s,X:s)", "not p(a)"], ("replace", 0, 0, 0, 1, 0, (0,)))
        self.steps("p(X:s)", ["p(X:s) | q(X:s,X:s)", "not q(Y:s,Y:s)"], ("replace", 0, 1, 0, 1, 0, (0,)))
        self.steps("p(Y:s)", ["p(X:s) | p(Y:s)", "not p(a)"], ("replace", 0, 0, 0, 1, 0, (0,)))
        # Another literal that becomes the same, and one that becomes greater.
        self.assertEqual(clause("p(X:s) | p(a)")[0], literal("p(X:s)"))
        self.steps(None, ["p(X:s) | p(a)", "not p(a)"], ("replace", 0, 0, 0, 1, 0, (0,)))
        self.steps("p(a)", ["p(X:s) | p(a)", "not p(c)"], ("replace", 0, 0, 0, 1, 0, (0,)))
        self.steps(None, ["p(X:s) | p(b)", "not p(a)"], ("replace", 0, 0, 0, 1, 0, (0,)))

    def test_selected_literals(self):
        self.steps("not r", ["p(a) | not r", "not p(a)"], ("replace", 0, 0, 0, 1, 0, (0,)))
        self.steps(None, ["p(a) | not r", "not p(a)"], ("replace", 0, 0, 0, 1, 0, (0,)), "first")
        self.steps(None, ["p(a) | not r", "not p(a)"], ("replace", 0, 0, 0, 1, 0, (0,)), "heaviest")
        text = ["r", "not q(a,a) | not r"]
        self.assertEqual(clause(text[1])[1], literal("not r"))
        for selection in ("none", "first", "heaviest"):
            self.steps(None, text, ("replace", 0, 0, 0, 1, 1, (0,)), selection)
        text = ["p(a)", "not p(a) | not q(a,a)"]
        self.steps("not q(a,a)", text, ("replace", 0, 0, 0, 1, 0, (0,)), "first")
        self.steps(None, text, ("replace", 0, 0, 0, 1, 0, (0,)), "heaviest")
        self.steps(None, text, ("replace", 0, 0, 0, 1, 0, (0,)))
        # A positive literal of a clause with a selected literal.
        text = ["f(a) = b", "p(f(a)) | not r"]
        self.steps("p(b) | not r", text, ("replace", 0, 0, 0, 1, 0, (0, 0)))
        self.steps(None, text, ("replace", 0, 0, 0, 1, 0, (0, 0)), "first")
        # Which literal is heaviest is told by the clause before it is filled.
        text = ["q(f(f(f(a))),Y:s)", "not q(X:s,a) | not p(f(f(b)))"]
        self.assertEqual(clause(text[1])[1], literal("not q(X:s,a)"))
        self.steps(None, text, ("replace", 0, 0, 0, 1, 1, (0,)), "heaviest")
        self.steps("not p(f(f(b)))", text, ("replace", 0, 0, 0, 1, 1, (0,)))

    def test_other_literals_of_clause_j(self):
        # A positive literal with one above it, or one that becomes the same.
        self.steps(None, ["f(a) = b", "p(f(a)) | q(f(a),a)"], ("replace", 0, 0, 0, 1, 0, (0, 0)))
        self.steps("p(f(a)) | q(b,a)", ["f(a) = b", "p(f(a)) | q(f(a),a)"], ("replace", 0, 0, 0, 1, 1, (0, 0)))
        self.assertEqual(clause("p(f(X:s)) | p(f(a))")[0], literal("p(f(X:s))"))
        self.steps(None, ["f(a) = b", "p(f(X:s)) | p(f(a))"], ("replace", 0, 0, 0, 1, 0, (0, 0)))
        self.steps("p(f(X:s)) | p(b)", ["f(a) = b", "p(f(X:s)) | p(f(a))"], ("replace", 0, 0, 0, 1, 1, (0, 0)))
        # For a negative one the same is no hindrance: both become one, and are left out together.
        self.steps("not p(b)", ["f(a) = b", "not p(f(X:s)) | not p(f(a))"], ("replace", 0, 0, 0, 1, 0, (0, 0)))
        self.steps("not p(b) | not p(f(X:s))", ["f(a) = b", "not p(f(X:s)) | not p(f(a))"], ("replace", 0, 0, 0, 1, 1, (0, 0)))
        self.steps(None, ["f(a) = b", "not p(f(a)) | q(f(a),a)"], ("replace", 0, 0, 0, 1, 0, (0, 0)))

    def test_the_literals_of_both_clauses(self):
        self.steps(None, ["f(a) = b", "f(a) = a"], ("replace", 0, 0, 0, 1, 0, (0,)))
        self.steps("b = a", ["f(a) = a", "f(a) = b"], ("replace", 0, 0, 0, 1, 0, (0,)))
        self.steps(None, ["f(a) = b"], ("replace", 0, 0, 0, 0, 0, (0,)))
        self.steps(None, ["p(X:s)"], ("replace", 0, 0, 0, 0, 0, (0,)))
        # A negative literal may be below.
        self.steps("b != a", ["f(a) = b", "f(a) != a"], ("replace", 0, 0, 0, 1, 0, (0,)))
        self.steps("f(b) != a | f(a) = b", ["f(f(a)) = f(b) | f(a) = b", "f(f(a)) != a"], ("replace", 0, 1, 0, 1, 0, (0,)))

    def test_one_clause_twice(self):
        step = self.at(["f(f(X:s)) = X:s"], ("replace", 0, 0, 0, 0, 0, (0, 0)))
        self.assertTrue(are_variants(step.conclusion, clause("f(X:s) = f(X:s)")))
        self.assertNotEqual(step.first, step.second)
        self.steps("f(f(X:s)) = f(f(X:s)) | r", ["f(f(X:s)) = f(X:s) | r"], ("replace", 0, 0, 0, 0, 0, (0, 0)))

    def test_common_names_of_variables(self):
        step = self.at(["q(X:s,Y:s) | p(Y:s)", "not q(Y:s,X:s) | p(X:s)"], ("replace", 0, 1, 0, 1, 1, (0,)))
        self.assertTrue(are_variants(step.conclusion, clause("p(X:s)")), clause_text(step.conclusion))
        self.steps("p(f(X:s))", ["q(X:s,f(X:s))", "not q(Y:s,X:s) | p(X:s)"], ("replace", 0, 0, 0, 1, 1, (0,)))
        # Made variables are renamed, too.
        self.steps("p(f(X:s))", ["q(Z0:s,f(Z0:s))", "not q(Z1:s,Z0:s) | p(Z0:s)"], ("replace", 0, 0, 0, 1, 1, (0,)))

    def test_no_common_filling_and_sorts_that_differ(self):
        self.steps(None, ["f(X:s) = X:s", "p(a)"], ("replace", 0, 0, 0, 1, 0, (0, 0)))
        self.steps(None, ["q(X:s,f(X:s))", "not q(Y:s,Y:s)"], ("replace", 0, 0, 0, 1, 0, (0,)))
        two = [((True, ("root",), ("X", "node")),), ((True, ("free", ("loop",)), ("true",)),), ((True, ("lit", ("leaf",)), ("true",)),)]
        order = Order.plain(GRAPH)
        for address, is_there in (
            (("replace", 0, 0, 1, 1, 0, (0, 0)), False), (("replace", 0, 0, 1, 1, 0, (0,)), False), (("replace", 0, 0, 1, 2, 0, (0, 0)), True),
            (("replace", 0, 0, 1, 2, 0, (0,)), False), (("replace", 0, 0, 1, 2, 0, (1,)), False),
        ):
            self.assertEqual(step_at(GRAPH, order, "none", two, address) is not None, is_there, address)

    def test_negative_literals_with_equal_sides(self):
        self.steps("r", ["f(a) = b | r", "f(a) != b"], ("replace", 0, 0, 0, 1, 0, (0,)))
        made = ["p(a) | b != b | r", "not p(a) | a != a"]
        self.assertEqual(clause(made[0])[1], literal("p(a)"))
        self.steps("r", made, ("replace", 0, 1, 0, 1, 1, (0,)))

    def test_literals_that_become_equal(self):
        made = ["p(f(X:s)) | r", "not p(f(a)) | r"]
        self.steps("r", made, ("replace", 0, 0, 0, 1, 0, (0,)))
        # Two literals of the second clause become the one that is used; both are left out.
        self.steps("r", ["p(a) | r", "not p(X:s) | not p(a)"], ("replace", 0, 0, 0, 1, 0, (0,)))


class TestAllSteps(StepCase):

    def check_all(self, vocabulary, order, selection, made):
        """All three functions agree with one another and with the plain way. Returns how many steps of each kind there are."""
        plain = PlainSteps(vocabulary, order, selection, made)
        found = []
        for address in addresses(made):
            step = step_at(vocabulary, order, selection, made, address)
            wanted = plain.at(address)
            self.assertEqual(step is None, wanted is None, address)
            if step is not None:
                self.assertEqual(step.address, address)
                self.assertTrue(are_variants(step.conclusion, wanted), address)
                self.check_fillings(made, step)
                self.check_paper(made, step, vocabulary)
                found.append(step)
        rows = [fields(step) for step in found]
        self.assertEqual([fields(step) for step in all_steps(vocabulary, order, selection, tuple(made))], rows)
        for index in range(len(made)):
            wanted = [row for row in rows if index == row[0][1] or (row[0][0] == "replace" and index == row[0][4])]
            self.assertEqual([fields(step) for step in steps_with(vocabulary, order, selection, made, index)], wanted)
        return [row[0][0] for row in rows]

    def test_no_clauses(self):
        for made in ([], (), [()], clauses("r"), clauses("false", "false")):
            self.assertEqual(all_steps(LAND, PLAIN, "none", made), ())
        self.assertEqual(steps_with(LAND, PLAIN, "none", [()], 0), ())

    def test_ascending_addresses(self):
        made = clauses("f(X:s) = a | f(Y:s) = b", "f(X:s) != a | p(f(f(X:s)))", "X:s != Y:s | Y:s != a", "p(X:s) | p(Y:s)", "not p(f(a))")
        for selection in ("none", "first", "heaviest"):
            found = [step.address for step in all_steps(LAND, PLAIN, selection, made)]
            kinds = [[address for address in found if address[0] == kind] for kind in ("reflect", "factor", "replace")]
            self.assertEqual(found, sorted(kinds[0]) + sorted(kinds[1]) + sorted(kinds[2]))
            self.assertEqual(len(set(found)), len(found))
            self.assertTrue(kinds[0] and kinds[2])
            self.check_all(LAND, PLAIN, selection, made)

    def test_the_same_clauses_among_others(self):
        """The fields do not depend on the other clauses that are passed."""
        one, two = clauses("p(f(X:s)) | q(Y:s,a)", "not p(X:s) | f(X:s) = Y:s")
        many = clauses("r", "p(Z:s)") + [two] + clauses("false") + [one]
        for step in all_steps(LAND, PLAIN, "none", [one, two]):
            numbers = {0: 4, 1: 2}
            address = list(step.address)
            address[1] = numbers[address[1]]
            if address[0] == "replace":
                address[4] = numbers[address[4]]
            other = step_at(LAND, PLAIN, "none", many, tuple(address))
            self.assertEqual(fields(other)[1:], fields(step)[1:])

    def test_no_selection(self):
        for word in ("", "None", "last", "heaviest "):
            for made in ([], clauses("r", "not r")):
                with self.assertRaises(NoSelection) as caught:
                    all_steps(LAND, PLAIN, word, made)
                self.assertEqual(caught.exception.selection, word)
                self.assertRaises(NoSelection, steps_with, LAND, PLAIN, word, made, 0)
                self.assertRaises(NoSelection, step_at, LAND, PLAIN, word, made, ("reflect", 0, 0))

    def test_chances(self):
        chances = Chances(53)
        kinds = []
        for _ in range(350):
            made = [chances.clause(3, 2) for _ in range(chances.random.randint(1, 3))]
            kinds.extend(self.check_all(SMALL, chances.order(), chances.random.choice(["none", "none", "first", "heaviest"]), made))
        for kind, least in (("reflect", 50), ("factor", 10), ("replace", 100)):
            self.assertGreater(kinds.count(kind), least)
        self.assertEqual(sort_of(SMALL, ("a",)), "s")


class TestPapers(StepCase):

    def test_many_literals(self):
        made = clauses("p(X:s) | q(X:s,Y:s) | X:s = a | Y:s != b | r", "not q(f(X:s),b) | p(X:s) | f(X:s) != b | not r")
        for selection in ("none", "first", "heaviest"):
            found = all_steps(LAND, PLAIN, selection, made)
            self.assertTrue(found or selection == "first")
            for step in found:
                self.check_paper(made, step)

    def test_keywords(self):
        made = clauses("f(X:s) = X:s", "p(f(a))")
        step = step_at(
            vocabulary=LAND, order=PLAIN, selection="none", clauses=made, address=("replace", 0, 0, 0, 1, 0, (0, 0)))
        self.assertEqual(last_line(LAND, made, step_paper(vocabulary=LAND, clauses=made, step=step)), clause("p(a)"))
        self.assertEqual(len(all_steps(vocabulary=LAND, order=PLAIN, selection="none", clauses=made)), 1)
        self.assertEqual(len(steps_with(vocabulary=LAND, order=PLAIN, selection="none", clauses=made, index=1)), 1)
        self.assertEqual(len(steps_with(vocabulary=LAND, order=PLAIN, selection="none", clauses=made, index=0)), 1)
        self.assertEqual(clause_variables(made[0]), (X,))
        self.assertEqual(Y[1], "s")


if __name__ == "__main__":
    unittest.main()
