"""Point 46: the walk from a refutation to a given clause that does not hold."""

import unittest

from chances import SMALL, Chances
from claimworlds.checking import all_lines, is_refutation
from claimworlds.clauses import clause_variables
from claimworlds.clausetexts import clause_text, read_clause
from claimworlds.errors import NotRefutation
from claimworlds.papers import Paper
from claimworlds.vocabularies import Vocabulary
from claimworlds.walking import walk
from claimworlds.worlds import World

LAND = Vocabulary(
    ("s", "t"), (("a", (), "s"), ("b", (), "s"), ("f", ("s",), "s"), ("c", (), "t")),
    (("p", ("s",)), ("q", ("s", "s")), ("r", ()), ("u", ("s", "t"))),
)
X = ("X", "s")
Y = ("Y", "s")
Z = ("Z", "s")
T = ("T", "t")
A = ("a",)
B = ("b",)


def f(term):
    return ("f", term)


def world(a=0, b=1, turn=(1, 2, 0), c=0, p=(True,) * 3, q=(True,) * 9, r=True, u=(True,) * 6):
    return World(LAND, (3, 2), ((a,), (b,), turn, (c,), p, q, (r,), u))


class TestWalk(unittest.TestCase):

    def clauses(self, *texts):
        return [read_clause(LAND, text) for text in texts]

    def walks(self, given, steps, made, wanted):
        paper = Paper(steps)
        self.assertIs(is_refutation(LAND, given, paper), True, [clause_text(line) for line in all_lines(LAND, given, paper)])
        found = walk(LAND, given, paper, made)
        self.assertEqual(found, wanted)
        self.assertIsInstance(found[1], tuple)
        clause = given[found[0]]
        things = dict(zip(clause_variables(clause), found[1]))
        self.assertIs(made.clause_holds(clause, things), False)

    def test_given(self):
        self.walks([()], [("given", 0)], world(), (0, ()))
        self.walks(self.clauses("r", "false", "false"), [("given", 0), ("given", 2)], world(), (2, ()))

    def test_fill_and_replace(self):
        given = self.clauses("p(X:s)", "not p(f(a))")
        steps = [("given", 0), ("fill", 0, ((X, f(A)),)), ("given", 1), ("replace", 1, 0, False, 2, 0, (0,)), ("drop", 3, 0)]
        # Line i is p(f(a)), line j is not p(f(a)).
        self.walks(given, steps, world(p=(True, False, True)), (0, (1,)))
        self.walks(given, steps, world(p=(True, True, False)), (1, ()))
        self.walks(given, steps, world(a=1, p=(True, True, False)), (0, (2,)))

    def test_more(self):
        given = self.clauses("r", "not r | p(a)", "not p(X:s)")
        steps = [
            ("given", 0), ("more", 0, (False, ("p", A), ("true",))), ("given", 1), ("replace", 0, 0, False, 2, 1, (0,)),
            ("drop", 3, 1), ("given", 2), ("fill", 5, ((X, A),)), ("replace", 4, 0, False, 6, 0, (0,)), ("drop", 7, 0),
        ]
        self.walks(given, steps, world(r=False, p=(False, True, True)), (0, ()))
        self.walks(given, steps, world(p=(False, True, True)), (1, ()))
        self.walks(given, steps, world(r=False), (2, (0,)))
        self.walks(given, steps, world(), (2, (0,)))
        # Through a step "more": its line does not hold, so neither does the line before it.
        given = self.clauses("false", "r")
        steps = [
            ("given", 0), ("more", 0, (False, ("p", f(B)), ("true",))), ("either", ("p", f(B)), ("true",)), ("more", 0, (True, ("p", f(B)), ("true",))),
            ("replace", 3, 0, False, 1, 0, (0,)), ("drop", 4, 0),
        ]
        self.walks(given, steps, world(), (0, ()))
        self.walks(given, steps, world(p=(False,) * 3), (0, ()))

    def test_same_and_either_are_left_aside(self):
        given = self.clauses("not p(X:s)", "p(b) | a = b", "a != b")
        steps = [
            ("either", ("p", B), ("true",)), ("given", 0), ("fill", 1, ((X, B),)),
            # not p(b) by a way round over either: p(b) there is replaced.
            ("replace", 0, 1, False, 2, 0, (0,)), ("drop", 3, 1), ("given", 1), ("replace", 5, 1, False, 4, 0, (0,)),
            ("drop", 6, 1), ("given", 2), ("same", A),
        ]
        lines = [clause_text(line) for line in all_lines(LAND, given, Paper(steps))]
        self.assertEqual(lines[4], "not p(b)")
        self.assertEqual(lines[5], "b = a | p(b)")
        self.assertEqual(lines[7], "b = a")
        steps += [("replace", 7, 0, False, 8, 0, (0,)), ("drop", 10, 0)]
        self.assertEqual(lines[8], "b != a")
        self.walks(given, steps, world(), (0, (1,)))
        self.walks(given, steps, world(p=(True, False, True)), (1, ()))
        self.walks(given, steps, world(b=0, p=(False, True, True)), (2, ()))

    def test_a_given_clause_with_variables(self):
        given = self.clauses("q(X:s,Y:s) | p(X:s)", "not q(a,f(a))", "not p(Y:s)")
        steps = [
            ("given", 0), ("fill", 0, ((X, A), (Y, f(A)))), ("given", 1), ("replace", 1, 1, False, 2, 0, (0,)), ("drop", 3, 1),
            ("given", 2), ("fill", 5, ((Y, A),)), ("replace", 4, 0, False, 6, 0, (0,)), ("drop", 7, 0),
        ]
        self.assertEqual(clause_variables(given[0]), (X, Y))
        no_q = tuple(index != 2 for index in range(9))
        for a, turned, p, q, wanted in (
            (0, (2, 0, 1), (False,) * 3, no_q, (0, (0, 2))), (0, (2, 0, 1), (False,) * 3, (True,) * 9, (1, ())),
            (0, (2, 0, 1), (True,) * 3, no_q, (2, (0,))), (1, (2, 0, 1), (True,) * 3, (False,) * 9, (2, (1,))),
        ):
            self.walks(given, steps, world(a=a, turn=turned, p=p, q=q), wanted)

    def test_a_variable_without_a_thing(self):
        """The variable is lost at the replace step, and counts as the thing 0 when it comes back."""
        given = self.clauses("p(X:s)", "not p(Y:s)")
        steps = [
            ("given", 0), ("given", 1), ("fill", 1, ((Y, X),)), ("replace", 0, 0, False, 2, 0, (0,)), ("drop", 3, 0),
        ]
        self.walks(given, steps, world(p=(False, True, True)), (0, (0,)))
        self.walks(given, steps, world(p=(True, False, False)), (1, (0,)))
        # The term f(X) has a value because X counts as 0.
        steps = [
            ("given", 0), ("fill", 0, ((X, f(X)),)), ("given", 1), ("fill", 2, ((Y, f(X)),)), ("replace", 1, 0, False, 3, 0, (0,)), ("drop", 4, 0),
        ]
        self.walks(given, steps, world(p=(True, True, False), turn=(2, 0, 1)), (0, (2,)))
        self.walks(given, steps, world(p=(True, False, False), turn=(0, 0, 1)), (1, (0,)))

    def test_fill_that_leaves_a_variable(self):
        given = self.clauses("u(X:s,T:t)", "not u(f(b),T:t)")
        steps = [
            ("given", 0), ("fill", 0, ((X, f(X)),)), ("fill", 1, ((X, B),)), ("given", 1), ("replace", 2, 0, False, 3, 0, (0,)), ("drop", 4, 0),
        ]
        self.assertEqual(clause_variables(given[0]), (X, T))
        self.walks(given, steps, world(b=1, u=(True,) * 4 + (False, True)), (0, (2, 0)))
        self.walks(given, steps, world(b=1, u=(True,) * 5 + (False,)), (1, (0,)))

    def test_fill_that_exchanges_two(self):
        given = self.clauses("q(X:s,Y:s)", "not q(b,a)")
        steps = [
            ("given", 0), ("fill", 0, ((X, Y), (Y, X))), ("fill", 1, ((X, A), (Y, B))), ("given", 1),
            ("replace", 2, 0, False, 3, 0, (0,)), ("drop", 4, 0),
        ]
        # Line 1 is q(Y,X), so the filled one is q(b,a).
        self.assertEqual(clause_text(all_lines(LAND, given, Paper(steps))[2]), "q(b,a)")
        self.walks(given, steps, world(a=2, b=1, q=tuple(index != 5 for index in range(9))), (0, (1, 2)))
        self.walks(given, steps, world(a=2, b=1), (1, ()))

    def test_things_that_a_fill_step_takes_away(self):
        """The variable Y of the line before keeps no thing: only the variables of line `i` have one behind a fill step."""
        given = self.clauses("p(X:s) | q(X:s,Y:s)", "not q(X:s,Y:s)", "not p(X:s)")
        steps = [
            ("given", 0), ("given", 1), ("replace", 0, 1, False, 1, 0, (0,)), ("drop", 2, 1), ("fill", 3, ((X, f(B)),)),
            ("given", 2), ("fill", 5, ((X, f(B)),)), ("replace", 4, 0, False, 6, 0, (0,)), ("drop", 7, 0),
        ]
        self.assertEqual(clause_text(all_lines(LAND, given, Paper(steps))[3]), "p(X:s)")
        # With Y = 0: q(2,0) is false.
        q = tuple(index != 6 for index in range(9))
        self.walks(given, steps, world(b=1, p=(True, True, False), q=q), (0, (2, 0)))
        self.walks(given, steps, world(b=1, p=(True, True, False)), (1, (2, 0)))
        self.walks(given, steps, world(b=1, p=(False, False, True), q=q), (2, (2,)))

    def test_replace_to_line_i_and_to_line_j(self):
        given = self.clauses("f(a) = b", "p(f(a))", "not p(b)")
        steps = [
            ("given", 0), ("given", 1), ("replace", 0, 0, False, 1, 0, (0, 0)), ("given", 2), ("replace", 2, 0, False, 3, 0, (0,)), ("drop", 4, 0),
        ]
        # Clause 0 is in order: f(a) stands first.
        self.assertEqual(given[0], ((True, f(A), B),))
        self.walks(given, steps, world(b=0, p=(False, True, True)), (0, ()))
        self.walks(given, steps, world(b=1, p=(True, False, True)), (1, ()))
        self.walks(given, steps, world(b=1, p=(True, True, True)), (2, ()))
        # If both lines do not hold, it goes to line i.
        self.walks(given, steps, world(b=2, p=(False, False, False)), (0, ()))

    def test_sequences_and_keywords(self):
        given = tuple(self.clauses("r", "false"))
        self.assertEqual(walk(vocabulary=LAND, given=given, paper=Paper([("given", 1)]), world=world()), (1, ()))

    def test_no_refutation(self):
        given = self.clauses("r", "not r", "false")
        for steps in (
            [], [("given", 0)], [("given", 2), ("given", 0)], [("given", 3)], [("snow",), ("given", 2)], [("given", 2), ("drop", 0, 0)], [None],
        ):
            self.assertRaises(NotRefutation, walk, LAND, given, Paper(steps), world())

    def test_chances(self):
        """Refutations of small sets of clauses without variables, and then of filled clauses."""
        chances = Chances(46)
        walked = 0
        for _ in range(300):
            term = chances.term("s", 2)
            atom = ("q", ("X", "s"), ("W", "t"))
            given = [
                tuple(sorted([(True, atom, ("true",)), (True, ("p", ("X", "s")), ("true",))], key=lambda row: row[1])),
                ((False, ("q", ("Y", "s"), ("c",)), ("true",)),), ((False, ("p", ("Y", "s")), ("true",)),),
            ]
            steps = [
                ("given", 0), ("fill", 0, ((("X", "s"), term), (("W", "t"), ("c",)))), ("given", 1), ("fill", 2, ((("Y", "s"), term),)),
                ("replace", 1, 1, False, 3, 0, (0,)), ("drop", 4, 1), ("given", 2), ("fill", 6, ((("Y", "s"), term),)),
                ("replace", 5, 0, False, 7, 0, (0,)), ("drop", 8, 0),
            ]
            made = chances.world(3)
            number, things = walk(SMALL, given, Paper(steps), made)
            self.assertIs(made.clause_holds(given[number], dict(zip(clause_variables(given[number]), things))), False)
            walked += number > 0
        self.assertTrue(30 < walked < 300)


if __name__ == "__main__":
    unittest.main()
