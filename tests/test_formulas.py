"""Points 13 and 14: formulas, sentences, free variables."""

import unittest

from claimworlds.formulas import denied_formula, free_variables, is_formula, is_sentence
from claimworlds.vocabularies import Vocabulary
from samples import E, GRAPH, LEAF, LOOP, ROOT, TRUTH, X, Y, next_of

RAIN = ("atom", ("rain",))
LIT_X = ("atom", ("lit", X))
LIT_Y = ("atom", ("lit", Y))
PAST = ("atom", ("past", X, Y))
FREE = ("atom", ("free", ("X", "edge")))


def every(name, formula, sort="node"):
    return ("all", name, sort, formula)


def some(name, formula, sort="node"):
    return ("some", name, sort, formula)


class TestFormulas(unittest.TestCase):

    def test_each_kind(self):
        for value in (
            ("true",), ("false",), RAIN, LIT_X, ("same", X, ROOT), ("same", LOOP, E), ("same", X, X),
            ("not", RAIN), ("and", RAIN, LIT_X), ("or", RAIN, LIT_X), ("implies", RAIN, LIT_X), ("iff", RAIN, LIT_X),
            every("X", LIT_X), some("X", LIT_X), every("X", every("X", LIT_X)), every("X", ("true",)),
            every("X", LIT_X, "edge"), ("not", ("not", ("same", next_of(X), Y))), ("and", RAIN, RAIN),
        ):
            self.assertIs(is_formula(GRAPH, value), True, value)
        self.assertIs(is_formula(vocabulary=GRAPH, value=RAIN), True)

    def test_each_way_to_miss_it(self):
        for value in (
            "true", "rain", "", 0, None, (), ((),), (("true",),), (None,), (1,), ("truth",), ("maybe", RAIN),
            ("true", RAIN), ("false", ("false",)), ("atom",), ("atom", ("rain",), ("rain",)), ("atom", "rain"),
            ("atom", TRUTH), ("atom", ROOT), ("atom", X), ("atom", None), ("atom", ()), ("atom", ("lit", LOOP)),
            ("rain",), ("lit", X), ROOT, X, ("same",), ("same", X), ("same", X, Y, Y), ("same", X, LOOP),
            ("same", ("next", LOOP), ROOT), ("same", ROOT, ("next", LOOP)), ("same", ("root", X), ("leaf", X)),
            ("same", ("rain",), ("rain",)), ("same", TRUTH, TRUTH), ("same", ("rain",), TRUTH), ("same", X, "X"),
            ("same", ("X", "stone"), ("X", "stone")), ("not",), ("not", RAIN, RAIN), ("not", ()), ("not", "rain"),
            ("not", None), ("not", ("rain",)), ("and",), ("and", RAIN), ("and", RAIN, RAIN, RAIN),
            ("or", RAIN, None), ("or", ("rain",), RAIN), ("implies", RAIN), ("iff", RAIN, 1), ("iff", 0, RAIN),
            ("all",), ("all", "X", "node"), ("all", "X", "node", LIT_X, LIT_X), ("all", "x", "node", LIT_X),
            ("all", "XY", "node", LIT_X), ("all", None, "node", LIT_X), ("all", X, "node", LIT_X),
            ("all", "X", "stone", LIT_X), ("all", "X", "root", LIT_X), ("all", "X", "truth", LIT_X),
            ("all", "X", None, LIT_X), ("all", "X", ("node",), LIT_X), ("all", "X", "node", None),
            ("some", "X", "node", X), ("some", "X", "node", ("lit", X)), ("some", "X", LIT_X), ("every", "X", "node", RAIN),
            ("All", "X", "node", LIT_X), ("and", RAIN, every("X", ("not",))),
        ):
            self.assertIs(is_formula(GRAPH, value), False, value)
            self.assertIs(is_sentence(GRAPH, value), False, value)

    def test_the_vocabulary_counts(self):
        small = Vocabulary(("node",), (), (("rain", ("node",)),))
        self.assertIs(is_formula(small, RAIN), False)
        self.assertIs(is_formula(small, ("atom", ("rain", X))), True)
        self.assertIs(is_formula(GRAPH, ("atom", ("rain", X))), False)

    def test_beyond_the_bounds(self):
        deep = RAIN
        quantified = RAIN
        bad = ("rain",)
        for _ in range(700):
            deep = ("and", ("not", deep), RAIN)
            bad = ("not", bad)
        for k in range(60):
            quantified = every("X" + str(k), quantified)
        for value in (deep, quantified):
            self.assertIs(is_formula(GRAPH, value), True)
            self.assertIs(is_sentence(GRAPH, value), True)
            self.assertEqual(free_variables(value), ())
        self.assertIs(is_formula(GRAPH, bad), False)


class TestSentences(unittest.TestCase):

    def test_sentences(self):
        for value in (
            ("true",), RAIN, ("same", ROOT, LEAF), every("X", LIT_X), every("X", some("Y", PAST)), every("X", RAIN),
            ("and", every("X", LIT_X), some("X", LIT_X)), every("X", FREE, "edge"),
            ("and", every("X", LIT_X), every("X", FREE, "edge")),
        ):
            self.assertIs(is_sentence(GRAPH, value), True, value)
        self.assertIs(is_sentence(vocabulary=GRAPH, value=RAIN), True)

    def test_formulas_that_are_no_sentences(self):
        for value in (
            LIT_X, ("same", X, X), every("Y", LIT_X), every("X", PAST), every("X", LIT_X, "edge"),
            ("and", every("X", LIT_X), LIT_X), ("or", LIT_X, every("X", LIT_X)),
            every("X", every("X", LIT_X)), every("X", some("X", LIT_X)), every("X", every("X", LIT_X, "edge")),
            every("X", ("not", every("X", FREE, "edge"))), every("X", some("Y", every("X", PAST))),
            every("X", every("X", ("true",))), every("X", ("or", LIT_X, some("X", RAIN))),
        ):
            self.assertIs(is_formula(GRAPH, value), True, value)
            self.assertIs(is_sentence(GRAPH, value), False, value)


class TestFreeVariables(unittest.TestCase):

    def test_free_variables(self):
        for formula, wanted in (
            (("true",), ()), (RAIN, ()), (LIT_X, (X,)), (PAST, (X, Y)), (("same", Y, next_of(X)), (Y, X)),
            (every("X", LIT_X), ()), (every("X", PAST), (Y,)), (every("Y", PAST), (X,)), (some("X", LIT_Y), (Y,)),
            (every("X", LIT_X, "edge"), (X,)), (every("X", ("and", LIT_X, FREE), "edge"), (X,)),
            (("and", FREE, LIT_X), (("X", "edge"), X)), (("not", LIT_X), (X,)),
        ):
            self.assertEqual(free_variables(formula), wanted, formula)
        self.assertEqual(free_variables(formula=RAIN), ())

    def test_free_and_bound_occurrences(self):
        self.assertEqual(free_variables(("and", every("X", LIT_X), LIT_X)), (X,))
        self.assertEqual(free_variables(("and", LIT_X, every("X", LIT_X))), (X,))
        self.assertEqual(free_variables(("or", every("X", PAST), LIT_X)), (Y, X))
        self.assertEqual(free_variables(("or", LIT_X, every("X", PAST))), (X, Y))

    def test_a_quantifier_that_hides_another_one(self):
        inner = every("X", ("and", every("X", LIT_X), PAST))
        self.assertEqual(free_variables(inner), (Y,))
        self.assertEqual(free_variables(every("X", every("X", ("and", LIT_X, FREE), "edge"))), ())

    def test_order_through_connectives(self):
        for word in ("and", "or", "implies", "iff"):
            self.assertEqual(free_variables((word, LIT_Y, LIT_X)), (Y, X))
            self.assertEqual(free_variables((word, (word, LIT_X, FREE), LIT_Y)), (X, ("X", "edge"), Y))

    def test_denied_formula(self):
        self.assertEqual(denied_formula(RAIN), ("not", RAIN))
        self.assertEqual(denied_formula(formula=("not", RAIN)), ("not", ("not", RAIN)))


if __name__ == "__main__":
    unittest.main()
