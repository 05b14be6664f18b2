"""Points 43 to 45: papers, the steps that are allowed, and their lines."""

import unittest

from claimworlds.checking import all_lines, is_refutation, last_line
from claimworlds.clauses import is_clause
from claimworlds.clausetexts import clause_text, read_clause
from claimworlds.errors import BadStep, NoSteps
from claimworlds.papers import Paper
from claimworlds.termtexts import read_term
from samples import E, GRAPH, LEAF, LOOP, ROOT, TRUTH, X, Y, deep_term, join, lit, next_of

RAIN = (True, ("rain",), TRUTH)
GIVEN = [
    read_clause(GRAPH, text) for text in (
        "lit(X:node) | next(X:node) = Y:node",                      # 0
        "not lit(root) | root != root",                             # 1
        "next(root) = leaf",                                        # 2
        "past(next(root),next(root)) | leaf = next(next(root))",    # 3
        "true != true | true = true",                               # 4
        "false",                                                    # 5
        "lit(root)",                                                # 6
        "link(root,E:edge) | E:edge != loop",                       # 7
    )
]
GIVENS = [("given", number) for number in range(len(GIVEN))]


class PaperTest(unittest.TestCase):

    def line(self, step):
        """The text of the line of a step behind those of all given clauses."""
        lines = all_lines(GRAPH, GIVEN, Paper(GIVENS + [step]))
        self.assertEqual(lines[:-1], tuple(GIVEN))
        self.assertIs(is_clause(GRAPH, lines[-1]), True)
        return clause_text(lines[-1])

    def gives(self, text, *steps):
        for step in steps:
            self.assertEqual(self.line(step), text, step)

    def refuses(self, *steps):
        for step in steps:
            with self.assertRaises(BadStep) as caught:
                all_lines(GRAPH, GIVEN, Paper(GIVENS + [step, ("given", 0), "junk"]))
            self.assertEqual(caught.exception.index, len(GIVENS), step)


# What stands in the place of a number of a line or an index, if so many are there.
def no_numbers(count):
    return (-1, count, count + 7, True, False, None, "0", "", (), (0,))


class TestGiven(PaperTest):

    def test_allowed(self):
        for number, clause in enumerate(GIVEN):
            self.gives(clause_text(clause), ("given", number))

    def test_not_allowed(self):
        self.refuses(*[("given", number) for number in no_numbers(len(GIVEN))])
        self.refuses(("given",), ("given", 0, 0))
        with self.assertRaises(BadStep):
            all_lines(GRAPH, [], Paper([("given", 0)]))


class TestFill(PaperTest):

    def test_allowed(self):
        self.gives("lit(X:node) | next(X:node) = Y:node", ("fill", 0, ()), ("fill", 0, ((X, X),)))
        self.gives("lit(root) | next(root) = leaf", ("fill", 0, ((X, ROOT), (Y, LEAF))), ("fill", 0, ((Y, LEAF), (X, ROOT))))
        self.gives("lit(Y:node) | next(Y:node) = X:node", ("fill", 0, ((X, Y), (Y, X))))
        self.gives("lit(next(Y:node)) | next(next(Y:node)) = Y:node", ("fill", 0, ((X, next_of(Y)),)))
        # The sides may change their places, and literals become equal.
        self.gives("lit(next(X:node)) | next(next(X:node)) = next(X:node)", ("fill", 0, ((X, next_of(X)), (Y, next_of(X)))))
        self.gives("link(root,loop) | loop != loop", ("fill", 7, ((E, LOOP),)))
        self.gives("lit(root)", ("fill", 6, ((X, LEAF), (E, LOOP))))
        self.gives("false", ("fill", 5, ((X, LEAF),)))

    def test_numbers_of_lines(self):
        self.refuses(*[("fill", number, ()) for number in no_numbers(len(GIVENS))])

    def test_pairs(self):
        self.refuses(
            ("fill", 0, None), ("fill", 0, ""), ("fill", 0, 0), ("fill", 0, [(X, ROOT)]), ("fill", 0, (X, ROOT)), ("fill", 0, ((X,),)),
            ("fill", 0, ((X, ROOT, ROOT),)), ("fill", 0, ((),)), ("fill", 0, (None,)), ("fill", 0, ("XY",)), ("fill", 0, ((X, ROOT), ())),
            ("fill", 0, ([X, ROOT],)), ("fill", 0, (True,)), ("fill", 0, ((X, ROOT), 1)),
        )

    def test_variables(self):
        self.refuses(
            ("fill", 0, ((X, ROOT), (X, ROOT))), ("fill", 0, ((X, ROOT), (Y, LEAF), (X, LEAF))), ("fill", 0, ((ROOT, ROOT),)),
            ("fill", 0, ((("X", "root"), ROOT),)), ("fill", 0, ((("X", "snow"), ROOT),)), ("fill", 0, ((("XX", "node"), ROOT),)),
            ("fill", 0, ((("X",), ROOT),)), ("fill", 0, ((("X", "node", "node"), ROOT),)), ("fill", 0, (("X", ROOT),)),
            ("fill", 0, ((None, ROOT),)), ("fill", 0, ((TRUTH, TRUTH),)), ("fill", 0, ((("X", "truth"), TRUTH),)),
            ("fill", 0, ((("Toolongxx", "node"), ROOT),)), ("fill", 0, ((next_of(X), ROOT),)),
        )

    def test_terms(self):
        self.refuses(*[("fill", 0, ((X, term),)) for term in (
            LOOP, E, ("snow",), ("rain",), TRUTH, ("next",), ("next", LOOP), ("X", "snow"), "root", None, 0, True, (), ("node",),
            ("lit", ROOT), [("root",)], ("root", ROOT), ("next", ("next", "root")),
        )])
        self.refuses(("fill", 7, ((E, ROOT),)), ("fill", 0, ((X, ROOT), (E, ROOT))))

    def test_lengths(self):
        self.refuses(("fill",), ("fill", 0), ("fill", 0, (), ()))


class TestSameAndEither(PaperTest):

    def test_same(self):
        self.gives("root = root", ("same", ROOT))
        self.gives("next(X:node) = next(X:node)", ("same", next_of(X)))
        self.gives("E:edge = E:edge", ("same", E))
        self.gives("true = true", ("same", TRUTH))

    def test_same_not_allowed(self):
        self.refuses(*[("same", value) for value in (
            ("rain",), ("lit", ROOT), ("snow",), ("next",), ("next", LOOP), ("X", "snow"), "root", "true", None, 1, True, (), ("false",),
        )])
        self.refuses(("same",), ("same", ROOT, ROOT))

    def test_either(self):
        self.gives("root != leaf | root = leaf", ("either", ROOT, LEAF), ("either", LEAF, ROOT))
        self.gives("root != root | root = root", ("either", ROOT, ROOT))
        self.gives("not lit(X:node) | lit(X:node)", ("either", ("lit", X), TRUTH))
        self.gives("not rain | rain", ("either", ("rain",), TRUTH))
        self.gives("loop != E:edge | loop = E:edge", ("either", E, LOOP))

    def test_either_not_allowed(self):
        self.refuses(
            ("either", ROOT, LOOP), ("either", X, E), ("either", TRUTH, ("rain",)), ("either", TRUTH, TRUTH), ("either", ROOT, TRUTH),
            ("either", TRUTH, ROOT), ("either", ("rain",), ("rain",)), ("either", ("rain",), ROOT), ("either", ROOT, ("rain",)),
            ("either", ("snow",), TRUTH), ("either", ("lit", LOOP), TRUTH), ("either", None, ROOT), ("either", ROOT, None),
            ("either", ("next",), ROOT), ("either", ROOT, ()), ("either", ROOT, ("X", "snow")), ("either", "rain", TRUTH),
            ("either", ("rain",), "true"),
        )
        self.refuses(("either",), ("either", ROOT), ("either", ROOT, LEAF, LEAF))


class TestMore(PaperTest):

    def test_allowed(self):
        self.gives("lit(X:node) | next(X:node) = Y:node | rain", ("more", 0, RAIN))
        self.gives("lit(root)", ("more", 6, lit(ROOT)))
        self.gives("not lit(root) | lit(root)", ("more", 6, (False, ("lit", ROOT), TRUTH)))
        self.gives("root != X:node", ("more", 5, (False, ROOT, X)))
        self.gives("true = true", ("more", 5, (True, TRUTH, TRUTH)))
        self.gives("true != true", ("more", 5, (False, TRUTH, TRUTH)))

    def test_numbers_of_lines(self):
        self.refuses(*[("more", number, RAIN) for number in no_numbers(len(GIVENS))])

    def test_literals(self):
        self.refuses(*[("more", 0, literal) for literal in (
            # Not in order.
            (True, X, ROOT), (True, LEAF, ROOT), (False, TRUTH, ("rain",)), (True, TRUTH, ("rain",)), (True, E, LOOP),
            # Not of the vocabulary, or of two sorts.
            (True, ("snow",), TRUTH), (True, ("rain",), ("rain",)), (True, ROOT, TRUTH), (True, ROOT, LOOP), (True, X, E),
            (True, ("lit", LOOP), TRUTH), (True, ("X", "snow"), ("X", "snow")),
            # No literals.
            (1, ROOT, LEAF), (0, ROOT, LEAF), (None, ROOT, LEAF), ("True", ROOT, LEAF), (True, ROOT), (True, ROOT, LEAF, LEAF), (), None,
            True, "rain", ("rain",), (True, "root", "root"), (True, None, None), (RAIN,),
        )])
        self.refuses(("more",), ("more", 0), ("more", 0, RAIN, RAIN))


class TestDrop(PaperTest):

    def test_allowed(self):
        self.gives("not lit(root)", ("drop", 1, 1))
        self.gives("true = true", ("drop", 4, 0))

    def test_not_allowed(self):
        # Two different sides; positive.
        self.refuses(("drop", 1, 0), ("drop", 7, 1), ("drop", 4, 1), ("drop", 6, 0), ("drop", 5, 0))
        self.refuses(*[("drop", number, 0) for number in no_numbers(len(GIVENS))])
        self.refuses(*[("drop", 1, index) for index in no_numbers(2)])
        self.refuses(*[("drop", 4, index) for index in (-2, False, True)])
        self.refuses(("drop",), ("drop", 1), ("drop", 1, 1, 1))


class TestReplace(PaperTest):
    GOOD = ("replace", 2, 0, False, 3, 0, (0, 1))

    def changed(self, number, *values):
        return [self.GOOD[:number] + (value,) + self.GOOD[number + 1:] for value in values]

    def test_at_each_place(self):
        # Line 3 is: next(next(root)) = leaf | past(next(root),next(root)).
        self.assertEqual(clause_text(GIVEN[3]), "next(next(root)) = leaf | past(next(root),next(root))")
        self.gives("next(next(root)) = leaf | past(next(root),leaf)", ("replace", 2, 0, False, 3, 1, (0, 1)))
        self.gives("next(next(root)) = leaf | past(leaf,next(root))", ("replace", 2, 0, False, 3, 1, (0, 0)))
        self.gives("next(leaf) = leaf | past(next(root),next(root))", ("replace", 2, 0, False, 3, 0, (0, 0)))
        self.gives("next(root) = next(next(root)) | past(next(root),next(root))", ("replace", 2, 0, True, 3, 0, (1,)))

    def test_turned(self):
        self.gives("leaf = leaf", ("replace", 2, 0, False, 2, 0, (0,)))
        self.gives("next(root) = next(root)", ("replace", 2, 0, True, 2, 0, (1,)))

    def test_the_whole_side(self):
        steps = GIVENS + [("fill", 0, ((X, ROOT), (Y, LEAF)))]
        # Line 8: lit(root) | next(root) = leaf.
        lines = all_lines(GRAPH, GIVEN, Paper(steps + [("replace", 8, 1, False, 2, 0, (0,))]))
        self.assertEqual(clause_text(lines[-1]), "leaf = leaf | lit(root)")
        lines = all_lines(GRAPH, GIVEN, Paper(steps + [("replace", 8, 1, True, 3, 0, (1,))]))
        self.assertEqual(clause_text(lines[-1]), "lit(root) | next(root) = next(next(root)) | past(next(root),next(root))")

    def test_the_new_literal_is_put_in_order(self):
        steps = [("given", 0), ("more", 0, (True, next_of(ROOT), LEAF)), ("more", 0, (False, next_of(ROOT), next_of(LEAF)))]
        for step, literal in (
            (("replace", 1, 0, False, 2, 0, (0,)), (False, next_of(LEAF), LEAF)),
            (("replace", 1, 0, True, 2, 0, (1, 0)), (False, next_of(ROOT), next_of(next_of(ROOT)))),
        ):
            self.assertEqual(last_line(GRAPH, [()], Paper(steps + [step])), (literal,))
        steps = [("given", 0), ("more", 0, (True, ROOT, LEAF)), ("more", 0, (True, next_of(ROOT), join(ROOT, ROOT)))]
        line = last_line(GRAPH, [()], Paper(steps + [("replace", 1, 0, False, 2, 0, (1, 1))]))
        self.assertEqual(line, ((True, next_of(ROOT), join(ROOT, LEAF)),))

    def test_an_atom_becomes_the_truth(self):
        self.gives("root != root | true != true", ("replace", 6, 0, False, 1, 0, (0,)))
        steps = GIVENS + [("either", ("lit", ROOT), TRUTH), ("replace", 6, 0, False, 8, 0, (0,)), ("replace", 6, 0, False, 8, 1, (0,))]
        lines = all_lines(GRAPH, GIVEN, Paper(steps))
        self.assertEqual([clause_text(line) for line in lines[-2:]], ["lit(root) | true != true", "not lit(root) | true = true"])

    def test_equal_literals_become_one(self):
        given = [read_clause(GRAPH, "next(root) = leaf | lit(leaf)"), read_clause(GRAPH, "lit(next(root)) | lit(leaf)")]
        # lit(leaf) stands at index 0 of both clauses.
        steps = [("given", 0), ("given", 1), ("replace", 0, 1, False, 1, 1, (0, 0))]
        self.assertEqual(clause_text(all_lines(GRAPH, given, Paper(steps))[-1]), "lit(leaf)")

    def test_one_line_twice(self):
        """If `i` and `j` are equal, both lines are that line: its other literals stay, also literal `a` in the second one."""
        given = [read_clause(GRAPH, "next(root) = leaf | past(next(root),leaf)")]
        for step, text in (
            (("replace", 0, 0, False, 0, 1, (0, 0)), "next(root) = leaf | past(leaf,leaf) | past(next(root),leaf)"),
            (("replace", 0, 0, True, 0, 1, (0, 1)), "next(root) = leaf | past(next(root),leaf) | past(next(root),next(root))"),
            (("replace", 0, 0, False, 0, 0, (0,)), "leaf = leaf | past(next(root),leaf)"),
            (("replace", 0, 1, False, 0, 1, (0,)), "next(root) = leaf | true = true"),
        ):
            self.assertEqual(clause_text(all_lines(GRAPH, given, Paper([("given", 0), step]))[-1]), text)

    def test_the_truth_in_the_place_of_the_truth(self):
        # Literal a is true = true: what stands at the place is the truth.
        for place in ((0,), (1,)):
            step = ("replace", 4, 1, False, 4, 0, place)
            self.gives("true != true | true = true", step)
            self.refuses(step[:3] + (True,) + step[4:])
        self.gives("lit(root) | true != true", ("replace", 4, 1, False, 6, 0, (1,)))
        self.refuses(("replace", 4, 1, False, 6, 0, (0,)), ("replace", 4, 1, False, 2, 0, (0,)), ("replace", 4, 1, False, 6, 0, (1, 0)))

    def test_variables_stand_for_themselves(self):
        steps = GIVENS + [("more", 5, (True, next_of(Y), X))]
        for step in (("replace", 8, 0, False, 0, 1, (0,)), ("replace", 2, 0, False, 0, 1, (0,))):
            with self.assertRaises(BadStep):
                all_lines(GRAPH, GIVEN, Paper(steps + [step]))
        lines = all_lines(GRAPH, GIVEN, Paper(steps + [("replace", 0, 1, True, 8, 0, (0, 0))]))
        self.assertEqual(clause_text(lines[-1]), "lit(X:node) | next(next(X:node)) = X:node")

    def test_not_allowed_numbers(self):
        self.gives("next(leaf) = leaf | past(next(root),next(root))", ("replace", 2, 0, False, 3, 0, (0, 0)))
        good = ("replace", 2, 0, False, 3, 0, (0, 0))
        for number, values in (
            (1, no_numbers(len(GIVENS))), (2, no_numbers(1)), (4, no_numbers(len(GIVENS))), (5, no_numbers(2)),
        ):
            for value in values:
                self.refuses(good[:number] + (value,) + good[number + 1:])
        # No literal at all.
        self.refuses(("replace", 5, 0, False, 3, 0, (0, 0)), ("replace", 2, 0, False, 5, 0, (0, 0)))

    def test_a_negative_literal(self):
        given = [read_clause(GRAPH, "next(root) != leaf"), read_clause(GRAPH, "not rain"), read_clause(GRAPH, "lit(next(root)) | rain")]
        steps = [("given", 0), ("given", 1), ("given", 2)]
        for step in (("replace", 0, 0, False, 2, 0, (0, 0)), ("replace", 1, 0, False, 2, 1, (0,))):
            with self.assertRaises(BadStep):
                all_lines(GRAPH, given, Paper(steps + [step]))

    def test_no_truth_value(self):
        good = ("replace", 2, 0, False, 3, 0, (0, 0))
        self.refuses(*[good[:3] + (value,) + good[4:] for value in (0, 1, None, "", "False", (), (False,))])
        good = ("replace", 2, 0, True, 3, 0, (1,))
        self.gives("next(root) = next(next(root)) | past(next(root),next(root))", good)
        self.refuses(*[good[:3] + (value,) + good[4:] for value in (0, 1, None, "True", False)])

    def test_places(self):
        good = ("replace", 2, 0, False, 3, 0, (0, 0))
        self.refuses(*[good[:6] + (place,) for place in (
            # None at all, or no side.
            (), None, 0, "", "00", [0, 0], True, (2, 0), (-1, 0), (True, 0), (False, 0), ("0", 0), (None, 0), ((0,), 0),
            # No such part.
            (0, 1), (0, -1), (0, 0, 1), (0, 0, 0, 0), (0, 0, -1), (0, True), (0, False), (0, "0"), (0, None), (0, (0,)), (1, 0), (0, 7),
            # Another term.
            (0,), (1,), (0, 0, 0),
        )])

    def test_the_truth_wants_one_number_and_no_turning(self):
        given = [read_clause(GRAPH, "lit(root)"), read_clause(GRAPH, "not lit(root)"), read_clause(GRAPH, "rain")]
        steps = [("given", 0), ("given", 1), ("given", 2)]
        lines = all_lines(GRAPH, given, Paper(steps + [("replace", 0, 0, False, 1, 0, (0,))]))
        self.assertEqual(clause_text(lines[-1]), "true != true")
        for step in (
            ("replace", 0, 0, True, 1, 0, (0,)), ("replace", 0, 0, True, 1, 0, (1,)), ("replace", 0, 0, False, 1, 0, (1,)),
            ("replace", 0, 0, False, 1, 0, (0, 0)), ("replace", 0, 0, False, 2, 0, (0,)), ("replace", 0, 0, False, 1, 0, ()),
        ):
            with self.assertRaises(BadStep) as caught:
                all_lines(GRAPH, given, Paper(steps + [step]))
            self.assertEqual(caught.exception.index, 3)

    def test_lengths(self):
        self.refuses(*[self.GOOD[:count] for count in range(1, 7)])
        self.refuses(self.GOOD + (0,))


class TestPapers(PaperTest):

    def test_the_field(self):
        for kind in (list, tuple):
            self.assertEqual(Paper(steps=kind(GIVENS)).steps, tuple(GIVENS))
        self.assertEqual(Paper([]).steps, ())

    def test_a_list_that_is_changed_afterwards(self):
        steps = [("given", 5)]
        paper = Paper(steps)
        steps[0] = ("given", 99)
        steps.append("junk")
        self.assertEqual(paper.steps, (("given", 5),))
        self.assertIs(is_refutation(GRAPH, GIVEN, paper), True)

    def test_what_is_no_step(self):
        self.refuses(
            (), None, 0, True, "given", "", ("snow", 0), ("Given", 0), ("", 0), (0, 0), (None, 0), (("given",), 0), (True, 0), ["given", 0],
            ("given 0",), ("given",), (("given", 0),), ("fill",), ("all", 0),
        )

    def test_the_first_bad_step(self):
        for steps, index in (
            ([("given", 9)], 0), ([("given", 0), ("given", 9), ("snow",)], 1), ([("given", 0), ("drop", 1, 0), ("given", 1)], 1),
            ([("given", 1), ("drop", 0, 1), ("drop", 1, 0), ("given", 9)], 2),
        ):
            for function in (all_lines, last_line):
                with self.assertRaises(BadStep) as caught:
                    function(GRAPH, GIVEN, Paper(steps))
                self.assertEqual(caught.exception.index, index)
            self.assertIs(is_refutation(GRAPH, GIVEN, Paper(steps)), False)

    def test_a_step_uses_lines_before_its_own(self):
        for steps in ([("fill", 0, ())], [("given", 0), ("fill", 1, ())], [("more", 1, RAIN), ("given", 0)]):
            self.assertRaises(BadStep, all_lines, GRAPH, GIVEN, Paper(steps))
        self.assertEqual(len(all_lines(GRAPH, GIVEN, Paper([("given", 0), ("fill", 0, ())]))), 2)

    def test_no_steps(self):
        self.assertEqual(all_lines(GRAPH, GIVEN, Paper([])), ())
        self.assertEqual(all_lines(GRAPH, (), Paper(())), ())
        self.assertRaises(NoSteps, last_line, GRAPH, GIVEN, Paper([]))
        self.assertIs(is_refutation(GRAPH, GIVEN, Paper([])), False)

    def test_last_line(self):
        self.assertEqual(last_line(vocabulary=GRAPH, given=GIVEN, paper=Paper([("given", 5), ("given", 2)])), GIVEN[2])
        self.assertEqual(last_line(GRAPH, tuple(GIVEN), Paper([("given", 5)])), ())
        self.assertRaises(BadStep, last_line, GRAPH, GIVEN, Paper([("snow",)]))

    def test_is_refutation(self):
        given = [read_clause(GRAPH, text) for text in ("lit(X:node)", "not lit(root) | root != leaf", "leaf = root")]
        steps = [
            ("given", 0), ("fill", 0, ((X, ROOT),)), ("given", 1), ("replace", 1, 0, False, 2, 0, (0,)), ("given", 2),
            ("replace", 4, 0, False, 3, 0, (0,)), ("drop", 5, 0), ("drop", 6, 0),
        ]
        lines = all_lines(GRAPH, given, Paper(steps))
        self.assertEqual(
            [clause_text(line) for line in lines[3:]],
            ["root != leaf | true != true", "root = leaf", "leaf != leaf | true != true", "true != true", "false"],
        )
        self.assertIs(is_refutation(GRAPH, given, Paper(steps)), True)
        self.assertIs(is_refutation(vocabulary=GRAPH, given=tuple(given), paper=Paper(steps)), True)
        self.assertIs(is_refutation(GRAPH, given, Paper(steps[:-1])), False)
        self.assertIs(is_refutation(GRAPH, given, Paper(steps + [("given", 0)])), False)
        self.assertIs(is_refutation(GRAPH, given[:2], Paper(steps)), False)
        self.assertIs(is_refutation(GRAPH, GIVEN, Paper([("given", 5)])), True)

    def test_large_lines(self):
        """Fillings may make terms that are nested far deeper than what is passed."""
        given = [read_clause(GRAPH, "lit(X:node)"), read_clause(GRAPH, "not lit(X:node)"), read_clause(GRAPH, "next(X:node) = X:node")]
        steps = [("given", 0), ("given", 1), ("given", 2)]
        ten = read_term(GRAPH, "next(" * 10 + "X:node" + ")" * 10)
        for _ in range(120):
            for _ in range(3):
                steps.append(("fill", len(steps) - 3, ((X, ten),)))
        end = len(steps)
        steps.extend([("replace", end - 3, 0, False, end - 2, 0, (0,)), ("drop", end, 0)])
        self.assertIs(is_refutation(GRAPH, given, Paper(steps)), True)
        self.assertIs(is_refutation(GRAPH, given, Paper(steps + [("replace", end - 1, 0, False, end - 3, 0, (0, 0))])), False)
        steps[-2:] = [("replace", end - 1, 0, True, end - 3, 0, (0, 0)), ("given", 0)]
        self.assertEqual(last_line(GRAPH, given, Paper(steps)), (lit(X),))
        steps[-1] = ("fill", 0, ((X, deep_term(11)),))
        self.assertEqual(last_line(GRAPH, given, Paper(steps)), (lit(deep_term(11)),))


if __name__ == "__main__":
    unittest.main()
