"""Points 49 and 51: papers put into one another, and trimmed papers."""

import unittest

from chances import SMALL, Chances
from claimworlds.checking import all_lines, last_line
from claimworlds.clauses import filled_literals
from claimworlds.covering import all_leaves
from claimworlds.errors import BadStep
from claimworlds.fillings import Filling
from claimworlds.joining import joined_paper, trimmed_paper
from claimworlds.matching import matched
from claimworlds.papers import Paper
from land import A, B, C, LAND, TRUTH, X, Y, clause, clauses, f, literal, term


def last_leaves(vocabulary, given, paper):
    return all_leaves(vocabulary, given, paper)[-1]


def allowed_leaf(clause_k, papers_leaf, leaf, made):
    """True if a leaf is one of a paper, filled as a given clause is filled in a leaf; other variables may be anything."""
    filled = {}
    for one, two in zip(clause_k, leaf):
        if filled is None or one[0] != two[0]:
            return False
        filled = matched_sides(one, two, filled)
    if filled is None or len(clause_k) != len(leaf) or len(papers_leaf) != len(made):
        return False
    for one, two in zip(papers_leaf, made):
        filled = None if one[0] != two[0] or filled is None else matched_sides(one, two, filled)
    return filled is not None


def matched_sides(one, two, filled):
    """The literals may be put in order after they are filled, so their sides may stand the other way round."""
    for left, right in ((two[1], two[2]), (two[2], two[1])):
        found = matched(one[1], left, filled)
        found = None if found is None else matched(one[2], right, found)
        if found is not None:
            return found
    return None


class TestJoined(unittest.TestCase):

    def joins(self, given, papers, steps, wanted, leaves):
        given = clauses(*given)
        made = joined_paper(LAND, given, papers, Paper(steps))
        self.assertEqual(last_line(LAND, given, made), clause(wanted))
        self.assertTrue(set(last_leaves(LAND, given, made)) <= set(tuple(leaf) for leaf in leaves))
        self.assertEqual(bool(last_leaves(LAND, given, made)), bool(leaves))
        return made

    def test_one_paper(self):
        papers = [Paper([("given", 1), ("fill", 0, ((X, A),))])]
        leaves = [clause("p(a)")]
        made = self.joins(["r", "p(X:s)"], papers, [("given", 0)], "p(a)", leaves)
        self.assertIsInstance(made, Paper)
        self.joins(["r", "p(X:s)"], papers, [("given", 0), ("more", 0, literal("r"))], "p(a) | r", leaves)

    def test_several_papers(self):
        given = ["f(X:s) = X:s", "p(f(f(a)))", "not p(a)"]
        # f(f(X)) = X from the first one, p(a) with it from the second one.
        papers = [
            Paper([("given", 0), ("fill", 0, ((X, f(X)),)), ("replace", 0, 0, False, 1, 0, (1,))]),
            Paper([("given", 1)]),
            Paper([("given", 2)]),
        ]
        self.assertEqual(last_line(LAND, clauses(*given), papers[0]), clause("f(f(X:s)) = X:s"))
        steps = [
            ("given", 0), ("fill", 0, ((X, A),)), ("given", 1), ("replace", 1, 0, False, 2, 0, (0, 0)),
            ("given", 2), ("replace", 3, 0, False, 4, 0, (0,)), ("drop", 5, 0),
        ]
        leaves = [clause("f(a) = a"), clause("f(f(a)) = f(a)"), clause("p(f(f(a)))"), clause("not p(a)")]
        self.joins(given, papers, steps, "false", leaves)
        self.joins(given, tuple(papers), steps, "false", leaves)

    def test_a_clause_with_several_papers(self):
        """The two papers have the same last line, but different leaves."""
        given = ["p(a)", "f(a) = a", "p(f(a))"]
        one = Paper([("given", 0)])
        two = Paper([("given", 1), ("given", 2), ("replace", 0, 0, False, 1, 0, (0, 0))])
        leaves = [clause("p(a)"), clause("f(a) = a"), clause("p(f(a))")]
        self.joins(given, [one, two], [("given", 0)], "p(a)", leaves)
        self.joins(given, [one, two], [("given", 1)], "p(a)", leaves)
        self.joins(given, [two, one], [("given", 0), ("given", 1), ("fill", 0, ())], "p(a)", leaves)

    def test_a_clause_that_is_used_with_different_fillings(self):
        given = ["f(X:s) = X:s"]
        papers = [Paper([("given", 0), ("fill", 0, ((X, Y),))])]
        steps = [("given", 0), ("fill", 0, ((Y, f(Y)),)), ("replace", 0, 0, False, 1, 0, (1,))]
        self.joins(given, papers, steps, "f(f(Y:s)) = Y:s", [clause("f(Y:s) = Y:s"), clause("f(f(Y:s)) = f(Y:s)")])
        steps = [("given", 0), ("fill", 0, ((Y, f(Y)),)), ("replace", 0, 0, False, 1, 0, (0, 0))]
        leaves = [clause("f(Y:s) = Y:s"), clause("f(f(Y:s)) = f(Y:s)")]
        self.joins(given, papers, steps, "f(Y:s) = f(Y:s)", leaves)
        given = ["p(X:s) | q(X:s,Y:s)", "not p(X:s)"]
        papers = [Paper([("given", 0)]), Paper([("given", 1)])]
        steps = [
            ("given", 0), ("fill", 0, ((X, A), (Y, B))), ("given", 1), ("fill", 2, ((X, A),)),
            ("replace", 1, 0, False, 3, 0, (0,)), ("drop", 4, 1), ("fill", 0, ((X, B),)), ("fill", 2, ((X, B),)),
            ("replace", 6, 0, False, 7, 0, (0,)), ("drop", 8, 1), ("fill", 9, ((Y, A),)),
        ]
        leaves = [clause("p(a) | q(a,b)"), clause("not p(a)"), clause("p(b) | q(b,a)"), clause("not p(b)")]
        self.joins(given, papers, steps[:6], "q(a,b)", leaves[:2])
        self.joins(given, papers, steps[:11], "q(b,a)", leaves[2:])

    def test_a_clause_that_is_not_used(self):
        given = ["r", "p(X:s)"]
        papers = [Paper([("given", 0)]), Paper([("given", 1)])]
        made = self.joins(given, papers, [("given", 1), ("given", 0)], "r", [clause("r")])
        self.assertEqual(all_lines(LAND, clauses(*given), made)[-1], clause("r"))
        self.joins(given, papers, [("given", 0), ("given", 1), ("fill", 1, ((X, A),)), ("fill", 0, ())], "r", [clause("r")])

    def test_other_variables_of_the_leaves(self):
        """The leaf has a variable that is not in the line, with the same name as one of `paper`."""
        given = ["p(X:s) | Y:s != Y:s"]
        papers = [Paper([("given", 0), ("drop", 0, 0)])]
        steps = [("given", 0), ("fill", 0, ((X, Y), (Y, A))), ("fill", 1, ((Y, B),))]
        made = joined_paper(LAND, clauses(*given), papers, Paper(steps))
        self.assertEqual(last_line(LAND, clauses(*given), made), clause("p(b)"))
        for leaf in last_leaves(LAND, clauses(*given), made):
            self.assertTrue(allowed_leaf(clause("p(X:s)"), clauses(*given)[0], clause("p(b)"), leaf))

    def test_no_leaves(self):
        papers = [Paper([("same", A)]), Paper([("either", A, B)])]
        self.joins([], papers, [("given", 0)], "a = a", [])
        self.joins(["r"], papers, [("given", 1), ("given", 0)], "a = a", [])
        self.joins(["r"], papers, [("given", 1), ("given", 0), ("same", C), ("more", 2, literal("r"))], "c = c | r", [])
        self.joins(["r"], [Paper([("given", 0)])], [("given", 0), ("either", ("p", A), TRUTH)], "p(a) | not p(a)", [])

    def test_bad_steps(self):
        papers = [Paper([("given", 0)])]
        for index, steps in (
            (0, [("given", 1)]), (1, [("given", 0), ("drop", 0, 0)]), (2, [("given", 0), ("given", 0), None, ("given", 7)]),
            (1, [("given", 0), ("fill", 1, ()), ("given", 0)]), (0, [("snow",)]),
        ):
            with self.assertRaises(BadStep) as caught:
                joined_paper(LAND, clauses("r", "p(a)"), papers, Paper(steps))
            self.assertEqual(caught.exception.index, index)

    def test_chances(self):
        chances = Chances(49)
        leafy = 0
        for _ in range(300):
            given = [chances.clause(2, 1) for _ in range(3)]
            papers = [chances.paper(given, chances.random.randint(1, 6)) for _ in range(3)]
            ends = [last_line(SMALL, given, paper) for paper in papers]
            paper = chances.paper(ends, chances.random.randint(1, 12))
            made = joined_paper(SMALL, given, papers, paper)
            self.assertEqual(last_line(SMALL, given, made), last_line(SMALL, ends, paper))
            sources = [last_leaves(SMALL, given, each) for each in papers]
            goals = last_leaves(SMALL, ends, paper)
            for leaf in last_leaves(SMALL, given, made):
                leafy += 1
                self.assertTrue(any(
                    allowed_leaf(ends[k], source, goal, leaf) for goal in goals for k in range(3) for source in sources[k]))
        self.assertGreater(leafy, 100)


class TestTrimmed(unittest.TestCase):

    def trims(self, steps, wanted):
        made = trimmed_paper(Paper(steps))
        self.assertIsInstance(made, Paper)
        self.assertEqual(made.steps, tuple(wanted))

    def test_no_steps(self):
        self.trims([], [])

    def test_nothing_to_leave_out(self):
        steps = [("given", 0), ("fill", 0, ((X, A),)), ("drop", 1, 0)]
        self.trims(steps, steps)
        self.trims([("given", 3)], [("given", 3)])
        self.trims([("same", TRUTH)], [("same", TRUTH)])

    def test_equal_steps(self):
        self.trims([("given", 0), ("given", 0), ("drop", 1, 0)], [("given", 0), ("drop", 0, 0)])
        self.trims(
            [("given", 0), ("given", 1), ("given", 0), ("replace", 2, 0, False, 1, 0, (0,))],
            [("given", 0), ("given", 1), ("replace", 0, 0, False, 1, 0, (0,))])

    def test_steps_that_become_equal(self):
        self.trims(
            [
                ("given", 0), ("given", 0), ("fill", 0, ((X, A),)), ("fill", 1, ((X, A),)), ("drop", 2, 0), ("drop", 3, 0),
                ("replace", 5, 1, True, 4, 0, (0, 1)),
            ],
            [("given", 0), ("fill", 0, ((X, A),)), ("drop", 1, 0), ("replace", 2, 1, True, 2, 0, (0, 1))])

    def test_steps_that_differ(self):
        for one, two in (
            (("fill", 0, ((X, A),)), ("fill", 0, ((X, B),))), (("fill", 0, ()), ("fill", 0, ((X, A),))),
            (("fill", 0, ((X, A), (Y, B))), ("fill", 0, ((Y, B), (X, A)))),
            (("more", 0, literal("r")), ("more", 0, literal("not r"))), (("drop", 0, 0), ("drop", 0, 1)),
            (("replace", 0, 0, True, 0, 0, (0,)), ("replace", 0, 0, False, 0, 0, (0,))),
            (("replace", 0, 0, True, 0, 0, (0,)), ("replace", 0, 0, True, 0, 0, (0, 0))),
            (("same", A), ("same", B)), (("either", A, B), ("either", B, A)), (("given", 1), ("given", 2)),
        ):
            steps = [("given", 0), one, two, ("replace", 1, 0, False, 2, 0, (0,))]
            made = trimmed_paper(Paper(steps)).steps
            self.assertEqual(made[-3:-1], (one, two))
            self.assertNotEqual(made[-1][1], made[-1][4])

    def test_steps_whose_items_look_like_others(self):
        """Strings may be brackets and digits, and there may be any tuples in a step."""
        items = (
            ("(", "a", ")"), (("a",),), ("()",), ((), "a"), ("a", ()), (("a", ()),), (("a",), ()), ((("a",),),), ("(", "a"),
            ("a", ")"), (("a", ")", "("),), (("a", ")"), "("), ("1", "a"), (1, "a"), ((1,), "a"), ((1, "a"),), (None, "a"),
            ("None", "a"), (("", "a"),),
        )
        steps = [("same",) + row for row in items]
        for one in steps:
            for two in steps:
                self.trims([one, two], [two])
                joined = ("replace", 1, 0, False, 0, 0, (0,))
                wanted = [one, ("replace", 0) + joined[2:]] if one == two else [one, two, joined]
                self.trims([one, two, joined], wanted)

    def test_steps_with_too_few_items(self):
        """Where no number of a line stands, no line is used."""
        for short in (
            (), ("given",), ("fill",), ("more",), ("drop",), ("replace",), ("same",), ("snow",), ("fill", None), ("more", True, 0),
            ("drop", "0", 0), ("drop", (0,), 0), ("replace", None, 0, False, "1", 0, ()), ((), 0), (("drop",), 0, 0), (None, 0), (1, 0),
        ):
            self.trims([short], [short])
            self.trims([short, short], [short])
            self.trims([("given", 0), short], [short])
            self.trims([short, ("given", 0)], [("given", 0)])
            self.trims([("given", 0), ("given", 1), short, ("fill", 2, ())], [short, ("fill", 0, ())])
        self.trims([(), ("given", 0), ("replace", 1)], [("given", 0), ("replace", 0)])
        self.trims([(), ("given", 0), ("replace", 1, 0, False)], [("given", 0), ("replace", 0, 0, False)])
        self.trims([("given", 2), ("given", 0), ("replace", None, 0, True, 1)], [("given", 0), ("replace", None, 0, True, 0)])

    def test_steps_that_are_not_used(self):
        self.trims([("given", 0), ("given", 1)], [("given", 1)])
        self.trims(
            [("given", 0), ("given", 1), ("drop", 0, 0), ("drop", 1, 0), ("same", A), ("fill", 3, ())],
            [("given", 1), ("drop", 0, 0), ("fill", 1, ())])

    def test_the_last_step_is_equal_to_an_earlier_one(self):
        self.trims([("given", 0), ("drop", 0, 0), ("given", 0)], [("given", 0)])
        self.trims(
            [("given", 1), ("given", 0), ("drop", 1, 0), ("fill", 2, ()), ("given", 0), ("drop", 4, 0)],
            [("given", 0), ("drop", 0, 0)])

    def test_both_lines_of_replace(self):
        self.trims(
            [("given", 2), ("given", 0), ("given", 1), ("given", 1), ("replace", 3, 0, False, 1, 1, (1, 0)), ("more", 4, literal("r"))],
            [("given", 0), ("given", 1), ("replace", 1, 0, False, 0, 1, (1, 0)), ("more", 2, literal("r"))])
        self.trims(
            [("given", 0), ("given", 0), ("replace", 0, 0, False, 1, 0, (0,))], [("given", 0), ("replace", 0, 0, False, 0, 0, (0,))])

    def test_deep_terms(self):
        deep = A
        for _ in range(3000):
            deep = f(deep)
        steps = [("same", deep), ("same", f(deep)), ("same", deep)]
        self.assertEqual(len(trimmed_paper(Paper(steps)).steps), 1)
        self.assertEqual(len(trimmed_paper(Paper(steps + [("replace", 2, 0, False, 1, 0, (0, 0))])).steps), 3)

    def test_chances(self):
        chances = Chances(51)
        shorter = 0
        for _ in range(150):
            given = [chances.clause(2, 1) for _ in range(2)]
            paper = chances.paper(given, chances.random.randint(1, 25))
            made = trimmed_paper(paper)
            self.assertEqual(last_line(SMALL, given, made), last_line(SMALL, given, paper))
            self.assertEqual(trimmed_paper(made).steps, made.steps)
            self.assertEqual(set(last_leaves(SMALL, given, made)), set(last_leaves(SMALL, given, paper)))
            shorter += len(made.steps) < len(paper.steps)
        self.assertGreater(shorter, 100)


if __name__ == "__main__":
    unittest.main()
