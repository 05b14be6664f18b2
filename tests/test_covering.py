"""Points 47 and 48: leaves and covers."""

import unittest

from chances import SMALL, Chances
from claimworlds.checking import last_line
from claimworlds.clauses import clause_of, filled_literals
from claimworlds.clausetexts import read_clause
from claimworlds.covering import all_leaves, is_cover
from claimworlds.errors import BadStep
from claimworlds.fillings import Filling
from claimworlds.orders import Order
from claimworlds.papers import Paper
from claimworlds.vocabularies import Vocabulary

LAND = Vocabulary(
    ("s",), (("a", (), "s"), ("b", (), "s"), ("f", ("s",), "s"), ("g", ("s", "s"), "s")),
    (("r", ()), ("p", ("s",)), ("q", ("s", "s"))),
)
PLAIN = Order.plain(LAND)
TRUTH = ("true",)
X = ("X", "s")
Y = ("Y", "s")
A = ("a",)
B = ("b",)


def f(term):
    return ("f", term)


def p(term, positive=True):
    return (positive, ("p", term), TRUTH)


def clauses(*texts):
    return [read_clause(LAND, text) for text in texts]


class TestLeaves(unittest.TestCase):

    def has(self, given, steps, *wanted):
        self.assertEqual(all_leaves(LAND, given, Paper(steps)), wanted)

    def test_no_steps(self):
        self.has(clauses("r"), [])
        self.assertEqual(all_leaves(vocabulary=LAND, given=(), paper=Paper([])), ())

    def test_given(self):
        one, two = clauses("p(X:s) | r", "false")
        self.has([one, two], [("given", 1), ("given", 0)], ((),), (one,))
        self.has((one, two), [("given", 0)], (one,))

    def test_same_and_either_have_none(self):
        self.has(clauses("r"), [("same", A), ("either", A, B), ("fill", 0, ()), ("more", 1, p(A))], (), (), (), ())

    def test_fill(self):
        (one,) = clauses("p(X:s) | p(Y:s)")
        self.has([one], [("given", 0), ("fill", 0, ((X, A),)), ("fill", 1, ((Y, B),))], (one,), ((p(A), p(Y)),), ((p(A), p(B)),))

    def test_literals_that_become_equal_stay(self):
        (one,) = clauses("p(X:s) | p(Y:s) | X:s != Y:s")
        self.assertEqual(one, ((False, Y, X), p(X), p(Y)))
        steps = [("given", 0), ("fill", 0, ((X, A), (Y, A))), ("drop", 1, 0)]
        self.assertEqual(last_line(LAND, [one], Paper(steps)), (p(A),))
        leaf = ((False, A, A), p(A), p(A))
        self.has([one], steps, (one,), (leaf,), (leaf,))

    def test_literals_are_put_in_order_but_not_sorted(self):
        (one,) = clauses("X:s = Y:s | p(X:s)")
        self.assertEqual(one, ((True, Y, X), p(X)))
        self.has([one], [("given", 0), ("fill", 0, ((X, f(B)), (Y, A)))], (one,), (((True, f(B), A), p(f(B))),))
        self.has([one], [("given", 0), ("fill", 0, ((X, A), (Y, f(B))))], (one,), (((True, f(B), A), p(A)),))
        (one,) = clauses("p(X:s) | p(Y:s)")
        self.has([one], [("given", 0), ("fill", 0, ((X, B), (Y, A)))], (one,), ((p(B), p(A)),))

    def test_more_and_drop(self):
        one, two = clauses("p(X:s)", "a != a")
        self.has([one, two], [("given", 0), ("more", 0, p(A)), ("given", 1), ("drop", 2, 0)], (one,), (one,), (two,), (two,))

    def test_replace(self):
        one, two = clauses("f(X:s) = X:s", "p(f(Y:s))")
        steps = [
            ("given", 0), ("given", 1), ("fill", 0, ((X, Y),)), ("replace", 2, 0, False, 1, 0, (0, 0)), ("replace", 2, 0, True, 3, 0, (0, 0)),
        ]
        filled = ((True, f(Y), Y),)
        self.has([one, two], steps, (one,), (two,), (filled,), (filled, two), (filled, two))
        self.assertEqual(last_line(LAND, [one, two], Paper(steps[:4])), (p(Y),))

    def test_line_i_comes_first(self):
        one, two = clauses("a = b", "p(b)")
        steps = [("given", 1), ("given", 0), ("replace", 1, 0, False, 0, 0, (0, 0))]
        self.has([one, two], steps, (two,), (one,), (one, two))
        # With a paper from the same clause, once as line i and once as line j.
        (both,) = clauses("a = b | p(b)")
        steps = [("given", 0), ("fill", 0, ()), ("replace", 0, 0, False, 1, 1, (0, 0))]
        self.has([both], steps, (both,), (both,), (both,))

    def test_equal_leaves_are_left_out(self):
        one, two, three = clauses("p(X:s)", "p(Y:s)", "not p(X:s) | p(f(X:s))")
        # Two leaves become equal when they are filled.
        steps = [
            ("given", 0), ("given", 2), ("replace", 0, 0, False, 1, [literal[0] for literal in three].index(False), (0,)),
            ("given", 1), ("fill", 3, ((Y, f(X)),)),
        ]
        filled = (p(f(X)),)
        self.has([one, two, three], steps, (one,), (three,), (one, three), (two,), (filled,))
        (same,) = clauses("p(X:s) | p(a)")
        steps = [("given", 0), ("given", 0), ("more", 0, p(B)), ("fill", 1, ((X, X),))]
        self.has([same], steps, (same,), (same,), (same,), (same,))

    def test_leaves_that_become_equal_by_filling(self):
        one, two, three = clauses("p(X:s)", "p(Y:s)", "not p(X:s) | not p(Y:s) | r")
        negative = [index for index, literal in enumerate(three) if not literal[0]]
        steps = [("given", 0), ("given", 1), ("given", 2), ("replace", 0, 0, False, 2, negative[0], (0,))]
        line = last_line(LAND, [one, two, three], Paper(steps))
        at = [literal[1][0] for literal in line].index("p")
        steps += [("replace", 1, 0, False, 3, at, (0,)), ("fill", 4, ((X, A), (Y, A))), ("fill", 4, ((Y, X),))]
        filled = Filling(((X, A), (Y, A)))
        self.has(
            [one, two, three], steps, (one,), (two,), (three,), (one, three), (two, one, three), ((p(A),), filled_literals(three, filled)),
            ((p(X),), filled_literals(three, Filling(((Y, X),)))),
        )

    def test_other_leaves_of_the_same_literals(self):
        """Leaves are equal only as tuples: with the literals in another order, or more often, they are others."""
        one, two = clauses("p(X:s) | p(Y:s)", "not p(a) | r")
        fills = [((X, A), (Y, B)), ((X, B), (Y, A)), ((X, A), (Y, A))]
        steps = [("given", 0)] + [("fill", 0, pairs) for pairs in fills] + [("given", 1)]
        steps += [("replace", 1, 0, False, 4, 0, (0,)), ("more", 5, (False, ("p", A), TRUTH))]
        line = last_line(LAND, [one, two], Paper(steps))
        at = [literal[:2] for literal in line].index((False, ("p", A)))
        steps += [("replace", 2, 0, False, 6, at, (0,))]
        leaves = all_leaves(LAND, [one, two], Paper(steps))
        self.assertEqual(leaves[1:4], (((p(A), p(B)),), ((p(B), p(A)),), ((p(A), p(A)),)))
        self.assertEqual(leaves[-1], ((p(B), p(A)), (p(A), p(B)), two))

    def test_bad_steps(self):
        for steps, index in (([("given", 1)], 0), ([("given", 0), None, ("given", 9)], 1), ([("given", 0), ("drop", 0, 0)], 1)):
            with self.assertRaises(BadStep) as caught:
                all_leaves(LAND, clauses("r"), Paper(steps))
            self.assertEqual(caught.exception.index, index)


class TestCovers(unittest.TestCase):

    def covers(self, wanted, given, steps, goal, order=PLAIN):
        for kind in (list, tuple):
            self.assertIs(is_cover(LAND, order, kind(given), Paper(kind(steps)), goal), wanted)
        self.assertIs(is_cover(vocabulary=LAND, order=order, given=given, paper=Paper(steps), goal=goal), wanted)

    def test_given(self):
        one, two = clauses("p(X:s) | r", "false")
        self.covers(True, [one, two], [("given", 0)], one)
        self.covers(True, [one, two], [("given", 1)], ())
        self.covers(True, [one, two], [("given", 1), ("more", 0, p(A))], (p(A),))

    def test_no_leaves(self):
        self.covers(True, [], [("same", A)], ((True, A, A),))
        self.covers(True, [], [("either", A, B)], clause_of([(True, A, B), (False, A, B)]))

    def test_no_steps_and_bad_steps(self):
        (one,) = clauses("r")
        self.covers(False, [one], [], one)
        self.covers(False, [one], [], ())
        self.covers(False, [one], [("given", 1), ("given", 0)], one)
        self.covers(False, [one], [("snow",), ("given", 0)], one)
        self.covers(False, [one], [("given", 0), None], one)

    def test_another_last_line(self):
        one, two = clauses("p(X:s)", "p(Y:s)")
        self.covers(False, [one, two], [("given", 0)], two)
        self.covers(False, [one, two], [("given", 0), ("given", 1)], one)
        self.covers(True, [one, two], [("given", 0), ("given", 1)], two)
        self.covers(False, [one, two], [("given", 0)], ())
        self.covers(False, [one, two], [("given", 0)], one + clauses("r")[0])

    def test_a_leaf_that_is_above(self):
        given = clauses("f(a) = b", "p(f(a))", "p(b)")
        steps = [("given", 0), ("given", 1), ("replace", 0, 0, False, 1, 0, (0, 0))]
        self.covers(False, given, steps, (p(B),))
        steps = [("given", 0), ("given", 2), ("replace", 0, 0, True, 1, 0, (0, 0))]
        self.covers(True, given, steps, (p(f(A)),))
        # In another order the equation is above what it makes.
        heavy = Order(PLAIN.names, [9 if name == "b" else 1 for name in PLAIN.names])
        self.covers(False, given, steps, (p(f(A)),), heavy)
        self.covers(True, given, [("given", 0), ("given", 1), ("replace", 0, 0, False, 1, 0, (0, 0))], (p(B),), heavy)

    def test_a_leaf_of_one_line_of_a_replace_step(self):
        given = clauses("b = a | f(f(a)) != f(f(a))", "p(a)", "p(b)")
        self.assertEqual([literal[0] for literal in given[0]], [True, False])
        steps = [("given", 0), ("drop", 0, 1), ("given", 1), ("replace", 1, 0, True, 2, 0, (0, 0))]
        # Only the leaf of line i is above.
        self.assertEqual([PLAIN.compare_clauses(leaf, (p(B),)) for leaf in given[:2]], ["above", "below"])
        self.covers(False, given, steps, (p(B),))
        # Only the leaf of line j is above.
        given = clauses("b = a", "p(b)")
        steps = [("given", 0), ("given", 1), ("replace", 0, 0, False, 1, 0, (0, 0))]
        self.assertEqual([PLAIN.compare_clauses(leaf, (p(A),)) for leaf in given], ["below", "above"])
        self.covers(False, given, steps, (p(A),))

    def test_lines_that_are_used_again_and_again(self):
        given = [((True, A, A),)]
        steps = [("given", 0)] + [("replace", number, 0, False, number, 0, (0,)) for number in range(200)]
        self.covers(True, given, steps, given[0])
        self.assertEqual(all_leaves(LAND, given, Paper(steps)), ((given[0],),) * 201)

    def test_a_leaf_that_is_open(self):
        given = clauses("p(X:s)", "not p(X:s) | r", "r | p(Y:s)")
        self.covers(True, given, [("given", 0), ("fill", 0, ((X, f(Y)),))], (p(f(Y)),))
        steps = [("given", 0), ("fill", 0, ((X, Y),)), ("more", 1, (True, ("q", X, X), TRUTH)), ("given", 0)]
        self.covers(True, given, steps[:3], clause_of([p(Y), (True, ("q", X, X), TRUTH)]))
        # The leaf p(X) is below q(X, X), but open to a clause of Y alone.
        given = clauses("q(X:s,X:s)", "not q(X:s,X:s) | p(Y:s)")
        steps = [("given", 0), ("given", 1), ("replace", 0, 0, False, 1, 1, (0,)), ("drop", 2, 1)]
        self.assertEqual(last_line(LAND, given, Paper(steps)), (p(Y),))
        self.assertEqual(PLAIN.compare_clauses(given[0], (p(Y),)), "open")
        self.covers(False, given, steps, (p(Y),))

    def test_equal_literals_in_a_leaf_count(self):
        given = clauses("p(X:s) | p(Y:s)")
        steps = [("given", 0), ("fill", 0, ((X, A), (Y, A)))]
        self.assertEqual(last_line(LAND, given, Paper(steps)), (p(A),))
        self.covers(False, given, steps, (p(A),))
        self.covers(True, given, steps + [("more", 1, (True, ("q", A, A), TRUTH))], (p(A), (True, ("q", A, A), TRUTH)))

    def test_only_the_leaves_of_the_last_line_count(self):
        given = clauses("q(a,a)", "p(a)")
        self.covers(True, given, [("given", 0), ("fill", 0, ()), ("given", 1)], (p(A),))

    def test_a_leaf_anywhere_below_the_last_line(self):
        """Each way to a leaf above the goal: through fill, more, drop and either line of a replace step."""
        given = clauses("p(f(a)) | a != a", "f(a) = b", "a = b")
        self.assertEqual([literal[0] for literal in given[0]], [False, True])
        steps = [
            ("given", 0), ("drop", 0, 0), ("given", 1), ("replace", 2, 0, False, 1, 0, (0, 0)), ("given", 2),
            ("replace", 4, 0, False, 3, 0, (0, 0)), ("fill", 5, ()), ("more", 6, (True, ("q", A, A), TRUTH)),
        ]
        self.covers(False, given, steps[:4], (p(B),))
        self.covers(False, given, steps[:6], (p(A),))
        self.covers(False, given, steps[:7], (p(A),))
        heavier = clause_of([p(A), (True, ("q", A, A), TRUTH)])
        self.covers(True, given, steps, heavier)
        self.covers(False, given, steps, heavier, Order(PLAIN.names, [5 if name == "f" else 1 for name in PLAIN.names]))

    def test_long_papers(self):
        given = clauses("f(X:s) = X:s", "p(a)")
        steps = [("given", 0), ("given", 1)]
        term = A
        for number in range(40):
            steps.append(("fill", 0, ((X, term),)))
            steps.append(("replace", len(steps) - 1, 0, True, 1 if number == 0 else len(steps) - 2, 0, (0, 0)))
            term = f(term)
        self.covers(True, given, steps, (p(term),))
        for number in range(3000):
            steps.append(("fill", 0, ((X, term),)))
            steps.append(("replace", len(steps) - 1, 0, number // 2 * 2 == number, len(steps) - 2, 0, (0, 0)))
        self.covers(True, given, steps, (p(term),))

    def test_chances(self):
        chances = Chances(48)
        order = Order.plain(SMALL)
        found = []
        for _ in range(200):
            clause = chances.clause(3, 1)
            filling = Filling([(("X", "s"), chances.term("s", 1)), (("W", "t"), chances.term("t", 1))])
            goal = clause_of(filled_literals(clause, filling))
            paper = Paper([("given", 0), ("fill", 0, filling.pairs)])
            wanted = order.compare_clauses(filled_literals(clause, filling), goal) == "same"
            self.assertIs(is_cover(SMALL, order, [clause], paper, goal), wanted)
            self.assertEqual(wanted, len(goal) == len(clause))
            found.append(wanted)
        self.assertTrue(3 < found.count(True) < 200)


if __name__ == "__main__":
    unittest.main()
