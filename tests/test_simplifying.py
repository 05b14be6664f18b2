"""Points 57 and 58: clauses made smaller by helpers."""

import unittest

from chances import SMALL, Chances
from claimworlds.checking import all_lines, last_line
from claimworlds.clauses import is_tautology
from claimworlds.clausetexts import clause_text, read_clause
from claimworlds.covering import is_cover
from claimworlds.orders import Order
from claimworlds.papers import Paper
from claimworlds.simplifying import Simplified, simplify
from claimworlds.vocabularies import Vocabulary
from land import LAND, PLAIN, TRUTH, clause, clauses
from plainmoves import all_moves, reached
from samples import GRAPH

COUNTING = Vocabulary(
    ("s",), (("e", (), "s"), ("a", ("s",), "s"), ("b", ("s",), "s"), ("c", ("s",), "s"), ("k", ("s", "s"), "s")), (("p", ("s",)),))
COUNTERS = [read_clause(COUNTING, text) for text in (
    "c(a(X:s)) = b(c(X:s))", "b(a(X:s)) = a(c(X:s))", "c(e) = b(e)", "b(e) = a(e)")]


class SimplifyCase(unittest.TestCase):

    def check(self, vocabulary, order, helpers, goal, most=2000):
        made = simplify(vocabulary, order, helpers, goal)
        self.assertIsInstance(made, Simplified)
        self.assertIsInstance(made.forward, Paper)
        self.assertEqual(last_line(vocabulary, list(helpers) + [goal], made.forward), made.result)
        self.assertTrue(is_cover(vocabulary, order, list(helpers) + [made.result], made.backward, goal))
        self.assertTrue(is_tautology(made.result) or not all_moves(vocabulary, order, helpers, made.result))
        if most > 0:
            found = reached(vocabulary, order, helpers, goal, most)
            self.assertTrue(found is None or made.result in found)
        again = simplify(vocabulary, order, tuple(helpers), goal)
        self.assertEqual(again.result, made.result)
        self.assertEqual((again.forward.steps, again.backward.steps), (made.forward.steps, made.backward.steps))
        return made

    def gives(self, wanted, helpers, text, order=PLAIN):
        made = self.check(LAND, order, clauses(*helpers), clause(text))
        self.assertEqual(clause_text(made.result), clause_text(clause(wanted)))
        return made

    def stays(self, helpers, text, order=PLAIN):
        self.gives(text, helpers, text, order)


class TestRewritings(SimplifyCase):

    def test_no_helpers(self):
        self.stays([], "p(f(a)) | not r")
        self.stays([], "false")
        made = simplify(LAND, PLAIN, [], clause("r"))
        self.assertEqual((made.forward.steps, made.backward.steps), ((("given", 0),), (("given", 0),)))

    def test_helpers_without_effect(self):
        self.stays(["false", "f(a) = a | r", "not p(f(a)) | r", "r | p(f(a))"], "p(f(a))")

    def test_at_the_top_and_inside(self):
        self.gives("p(a)", ["f(X:s) = X:s"], "p(f(a))")
        self.gives("p(a)", ["f(X:s) = X:s"], "p(f(f(f(a))))")
        self.gives("p(g(a,b))", ["f(X:s) = X:s"], "p(g(f(a),f(b)))")
        self.gives("p(f(b))", ["f(a) = b"], "p(f(f(a)))")
        self.gives("b != a", ["f(a) = b"], "f(a) != a")

    def test_at_each_side(self):
        self.gives("c != b", ["f(a) = b"], "f(a) != c")
        self.gives("f(f(c)) != b", ["f(a) = b"], "f(f(c)) != f(a)")
        self.gives("g(c,b) = b", ["f(a) = b"], "f(a) = g(c,f(a))")

    def test_by_either_side(self):
        heavy = Order(PLAIN.names, [9 if name == "b" else 1 for name in PLAIN.names])
        self.gives("p(f(a))", ["f(a) = b"], "p(b)", heavy)
        self.stays(["f(a) = b"], "p(f(a))", heavy)
        self.gives("p(b)", ["f(a) = b"], "p(f(a))")
        self.stays(["f(a) = b"], "p(b)")

    def test_by_an_atom(self):
        made = self.gives("r | true = true", ["p(X:s)"], "p(f(a)) | r")
        self.assertTrue(is_tautology(made.result))
        # An atom alone is not below itself.
        self.stays(["p(a)"], "p(a)")
        self.stays(["p(X:s)"], "p(f(a))")
        self.stays(["p(a)"], "p(f(a)) | r")
        self.stays(["r"], "p(a)")

    def test_open_sides(self):
        """`left` and `right` are open, and the filled ones tell."""
        self.gives("p(g(a,b))", ["g(X:s,Y:s) = g(Y:s,X:s)"], "p(g(b,a))")
        self.stays(["g(X:s,Y:s) = g(Y:s,X:s)"], "p(g(a,b))")
        self.stays(["g(X:s,Y:s) = g(Y:s,X:s)"], "p(g(a,a))")
        self.stays(["g(X:s,Y:s) = g(Y:s,X:s)"], "p(g(U:s,V:s))")
        self.gives("p(g(a,f(b)))", ["g(X:s,Y:s) = g(Y:s,X:s)"], "p(g(f(b),a))")

    def test_variables_that_do_not_occur_in_left(self):
        self.stays(["X:s = Y:s"], "p(a)")
        self.stays(["g(X:s,Y:s) = g(X:s,Z:s)"], "p(g(a,b))")
        self.stays(["f(X:s) = g(Y:s,Y:s)"], "p(f(a)) | p(g(a,a))")

    def test_a_variable_as_left(self):
        self.gives("p(a)", ["X:s = a"], "p(f(b))")
        self.gives("p(a)", ["X:s = a"], "p(g(f(b),f(X:s)))")
        # No rewriting at places of variables.
        self.stays(["X:s = a"], "p(X:s)")
        self.gives("q(X:s,a)", ["X:s = a"], "q(X:s,c)")

    def test_a_helper_that_is_not_below_the_clause(self):
        self.stays(["f(a) = b"], "f(a) = b")
        self.stays(["f(a) = b"], "f(a) = a")
        self.gives("c = b", ["f(a) = b"], "f(a) = c")
        self.stays(["f(X:s) = a"], "f(b) = a")
        # The clause has another literal that is above, or the helper itself and one more.
        self.gives("b = a | p(f(c))", ["f(a) = b"], "f(a) = a | p(f(c))")
        self.gives("b = b | r", ["f(a) = b"], "f(a) = b | r")
        # A negative literal is above.
        self.gives("b != a", ["f(a) = b"], "f(a) != a")
        # Inside a side the helper is below.
        self.gives("f(b) = a", ["f(a) = b"], "f(f(a)) = a")

    def test_the_clause_before_the_rewriting_counts(self):
        """The helper is below the clause at first, but no longer after another rewriting."""
        made = self.check(LAND, PLAIN, clauses("f(a) = b", "g(X:s,Y:s) = Y:s"), clause("f(a) = g(c,a)"))
        self.assertIn(clause_text(made.result), ("f(a) = a", "b = a"))
        made = self.check(LAND, PLAIN, clauses("f(a) = b", "p(g(X:s,X:s))"), clause("f(a) = a | p(g(c,c))"))
        self.assertTrue(is_tautology(made.result))

    def test_several_in_a_row(self):
        helpers = ["f(X:s) = X:s", "g(X:s,a) = X:s", "c = b", "b = a"]
        self.gives("q(a,a)", helpers, "q(g(f(c),f(b)),f(f(c)))")
        self.gives("f(a) = a", helpers, "f(c) = g(b,c)")
        self.gives("false", helpers, "f(c) != g(b,c)")
        self.gives("p(a)", helpers, "p(f(c)) | p(g(a,b)) | p(a)")

    def test_literals_that_become_equal(self):
        made = self.gives("p(a) | r", ["f(X:s) = X:s"], "p(f(a)) | p(a) | r")
        self.assertEqual(len(made.result), 2)
        self.gives("p(a)", ["f(X:s) = X:s"], "p(f(a)) | p(f(f(a)))")
        self.gives("b = a | f(b) = a", ["f(X:s) = X:s"], "b = f(a) | f(b) = a")
        self.gives("b != a", ["f(X:s) = X:s"], "b != f(a) | f(b) != a")

    def test_sides_that_change_their_places(self):
        self.gives("f(b) != a", ["g(X:s,Y:s) = X:s"], "f(b) != g(a,c)")
        self.gives("c != a", ["g(X:s,Y:s) = X:s"], "g(a,b) != g(c,a)")
        self.gives("f(a) = b", ["g(X:s,Y:s) = X:s", "f(X:s) = c"], "g(b,b) = f(a)")
        self.gives("c != b", ["g(X:s,Y:s) = X:s", "f(X:s) = c"], "g(b,b) != f(a)")

    def test_variables_with_the_same_names(self):
        self.gives("q(X:s,Y:s)", ["f(X:s) = X:s"], "q(f(X:s),f(f(Y:s)))")
        self.gives("q(Y:s,X:s)", ["g(X:s,Y:s) = X:s"], "q(g(Y:s,X:s),g(X:s,Y:s))")
        self.stays(["f(f(X:s)) = X:s"], "q(f(X:s),X:s)")
        self.stays(["g(X:s,X:s) = X:s"], "p(g(X:s,Y:s))")

    def test_sorts(self):
        order = Order.plain(GRAPH)
        goal = read_clause(GRAPH, "link(next(root),loop)")
        for helper, wanted in (
            ("X:edge = loop", "link(next(root),loop)"), ("X:node = root", "link(root,loop)"), ("X:node = leaf", "link(leaf,loop)"),
            ("X:edge = Y:edge", "link(next(root),loop)"),
        ):
            made = self.check(GRAPH, order, [read_clause(GRAPH, helper)], goal)
            self.assertEqual(clause_text(made.result), wanted)
        made = self.check(GRAPH, order, [read_clause(GRAPH, "X:edge = Y:edge")], read_clause(GRAPH, "root != leaf | loop != arc(root,leaf)"))
        self.assertEqual(clause_text(made.result), "root != leaf")


class TestCutsAndClearings(SimplifyCase):

    def test_cuts(self):
        self.gives("r", ["p(X:s)"], "not p(f(a)) | r")
        self.gives("r", ["not p(X:s)"], "p(f(a)) | r")
        self.gives("false", ["r"], "not r")
        self.gives("false", ["not r"], "r")
        self.gives("r", ["a = b"], "a != b | r")
        self.gives("r", ["a != b"], "a = b | r")
        self.stays(["p(a)"], "not p(b) | r")
        self.stays(["not p(a)"], "not p(a)")
        self.stays(["p(f(X:s))"], "not p(X:s)")

    def test_no_order_is_asked(self):
        self.gives("false", ["not p(a)"], "p(a)")
        self.gives("false", ["a = b"], "a != b")
        self.gives("false", ["not p(X:s)"], "p(X:s)")

    def test_turned_round_by_the_filling(self):
        self.gives("r", ["f(X:s) = Y:s"], "f(f(a)) != f(b) | r")
        self.gives("r", ["f(X:s) != g(Y:s,Y:s)"], "g(a,a) = f(b) | r")
        for text in ("f(a) = b", "b = f(a)", "f(a) = g(b,b)", "g(a,a) = f(c)", "f(a) = f(f(a))", "f(f(a)) = f(a)"):
            self.gives("r", ["f(X:s) != Y:s"], text + " | r")

    def test_variables_of_the_helper_alone(self):
        self.gives("r", ["U:s = V:s"], "f(a) != b | r")
        self.gives("r", ["U:s != V:s"], "f(a) = b | r")
        self.gives("false", ["q(U:s,V:s)"], "not q(X:s,X:s) | not q(X:s,Y:s)")
        self.stays(["q(U:s,U:s)"], "not q(X:s,Y:s)")

    def test_clearings(self):
        self.gives("r", [], "a != a | r")
        self.gives("false", [], "a != a | X:s != X:s | true != true")
        self.gives("r", ["f(X:s) = X:s"], "f(a) != a | r")
        self.gives("r", ["f(X:s) = X:s"], "f(a) != f(f(a)) | a != a | r")

    def test_the_empty_clause(self):
        self.stays(["p(X:s)", "f(X:s) = X:s"], "false")
        made = self.gives("false", ["p(X:s)", "not r"], "not p(a) | r | f(b) != f(b)")
        self.assertEqual(made.result, ())

    def test_tautologies(self):
        for text in ("a = a", "p(f(a)) | not p(f(a))", "true = true", "r | true = true", "f(a) = f(a) | f(a) != b"):
            made = self.check(LAND, PLAIN, clauses("f(a) = b", "r"), clause(text))
            self.assertTrue(is_tautology(made.result))
        made = self.check(LAND, PLAIN, clauses("f(X:s) = X:s"), clause("p(f(a)) | not p(a)"))
        self.assertTrue(is_tautology(made.result))
        made = self.check(LAND, PLAIN, clauses("f(X:s) = X:s"), clause("f(a) = f(f(a)) | r"))
        self.assertTrue(is_tautology(made.result))

    def test_literals_of_the_truth(self):
        self.gives("r", ["true = true"], "true != true | r")
        made = self.check(LAND, PLAIN, clauses("true != true"), clause("true = true"))
        self.assertIn(made.result, ((), ((True, TRUTH, TRUTH),)))

    def test_cuts_after_rewritings(self):
        self.gives("r", ["f(X:s) = X:s", "p(a)"], "not p(f(f(a))) | r")
        self.gives("r", ["f(X:s) = X:s", "not p(a)"], "p(f(f(a))) | r")
        self.gives("r", ["f(X:s) = X:s", "a != b"], "f(a) = f(b) | r")


class TestPapers(SimplifyCase):

    def test_papers_from_all_helpers_and_one_clause(self):
        helpers = clauses("r | p(a)", "f(X:s) = X:s", "not p(b)", "r | p(c)")
        goal = clause("p(f(a)) | p(f(b))")
        made = self.check(LAND, PLAIN, helpers, goal)
        self.assertEqual(made.result, clause("p(a)"))
        self.assertIn(("given", 4), made.forward.steps)
        self.assertIn(("given", 4), made.backward.steps)
        lines = all_lines(LAND, helpers + [goal], made.forward)
        self.assertEqual(lines[-1], clause("p(a)"))

    def test_keywords(self):
        made = simplify(vocabulary=LAND, order=PLAIN, helpers=(), clause=())
        self.assertEqual(made.result, ())

    def test_many_rewritings(self):
        """The helpers count, so the number of rewritings doubles with each symbol."""
        order = Order.plain(COUNTING)
        counts = []
        for depth in (3, 4, 9):
            goal = read_clause(COUNTING, "not p(c(" + "a(" * depth + "e" + ")" * depth + "))")
            made = self.check(COUNTING, order, COUNTERS, goal, 0)
            self.assertEqual(clause_text(made.result), "not p(" + "a(" * (depth + 1) + "e" + ")" * (depth + 2))
            counts.append(len(made.forward.steps))
        self.assertGreater(counts[1], 1.7 * counts[0])
        self.assertGreater(counts[2], 1000)

    def test_rewritings_that_spare_others(self):
        """What is cut, or what a rewriting at the outside leaves out, is not rewritten before."""
        order = Order.plain(COUNTING)
        long = "c(" + "a(" * 50 + "e" + ")" * 51
        for helper, text, wanted in (
            ("k(X:s,Y:s) = X:s", f"not p(k(e,{long}))", "not p(e)"), ("k(X:s,e) = e", f"not p(b(k({long},e)))", "not p(a(e))"),
            ("p(X:s)", f"not p({long}) | e = a(e)", "e = a(e)"), ("p(k(X:s,Y:s))", f"p(k(e,{long})) | e = a(e)", "e = a(e) | true = true"),
        ):
            made = self.check(COUNTING, order, COUNTERS + [read_clause(COUNTING, helper)], read_clause(COUNTING, text), 0)
            self.assertEqual(clause_text(made.result), wanted)
            self.assertLess(len(made.forward.steps), 20)

    def test_large_terms(self):
        goal = clause("p(" + "f(" * 19 + "a" + ")" * 20)
        self.assertEqual(self.check(LAND, PLAIN, clauses("f(f(X:s)) = X:s"), goal, 0).result, clause("p(f(a))"))
        deep = ("a",)
        for _ in range(3000):
            deep = ("f", deep)
        made = simplify(LAND, PLAIN, clauses("c = b", "g(X:s,X:s) = X:s"), ((True, ("q", deep, ("c",)), TRUTH),))
        self.assertEqual(made.result[0][1][2], ("b",))

    def test_chances(self):
        chances = Chances(57)
        changed = 0
        for _ in range(1500):
            helpers = [chances.clause(1 if chances.random.random() < 0.9 else 2, 2) for _ in range(chances.random.randint(1, 7))]
            goal = chances.clause(4, 3)
            changed += self.check(SMALL, chances.order(), helpers, goal, 300).result != goal
        self.assertGreater(changed, 200)


if __name__ == "__main__":
    unittest.main()
