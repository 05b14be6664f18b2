"""Points 5 and 9 to 12: terms, atoms, the truth, their parts and places."""

import unittest

from claimworlds.errors import BadPlace
from claimworlds.terms import (
    inner_places, is_atom, is_term, is_variable, part_at, put_at, size_of, sort_of, variables_of,
)
from claimworlds.vocabularies import Vocabulary
from samples import E, GRAPH, LEAF, LOOP, ROOT, TRUTH, X, Y, deep_term, join, next_of

TRIP = ("trip", next_of(X), ("arc", X, Y), ROOT)
NO_TERMS = (
    "root", "X", "", 0, 1, None, (), TRUTH, ("root",) * 2, ((),), (ROOT,), (None,), (3,), ("",),
    ("next",), ("next", ROOT, ROOT), ("next", LOOP), ("next", E), ("next", "root"), ("next", None), ("next", 0),
    ("next", ()), ("next", TRUTH), ("next", ("rain",)), ("next", ("lit", ROOT)), ("next", ("next", LOOP)),
    ("node",), ("stone",), ("rain",), ("lit", ROOT), ("X",), ("X", "node", "node"), ("X", "stone"), ("X", "truth"),
    ("X", "root"), ("X", ROOT), ("X", ("X", "node")), ("X", None), ("Xx_", "node"), ("Xxxxxxxxx", "node"),
    ("XY", "node"), ("_", "node"), ("x", "node"), ("join", ROOT), ("join", ROOT, ROOT, ROOT), ("trip", ROOT, ROOT, ROOT),
    ("all",), (("root",), "node"),
)


class TestKinds(unittest.TestCase):

    def test_is_variable(self):
        for term, wanted in ((X, True), (("Z0", "edge"), True), (ROOT, False), (next_of(X), False), (TRUTH, False)):
            self.assertIs(is_variable(term), wanted)
        self.assertIs(is_variable(term=("lit", X)), False)

    def test_terms(self):
        for value in (X, E, ("Z12", "node"), ("Abcdefg8", "edge"), ROOT, LOOP, next_of(X), join(ROOT, next_of(Y)), TRIP):
            self.assertIs(is_term(GRAPH, value), True, value)
            self.assertIs(is_atom(GRAPH, value), False, value)

    def test_what_is_no_term(self):
        for value in NO_TERMS:
            self.assertIs(is_term(GRAPH, value), False, value)

    def test_atoms(self):
        for value in (("rain",), ("lit", X), ("lit", join(ROOT, LEAF)), ("link", ROOT, ("arc", X, X))):
            self.assertIs(is_atom(vocabulary=GRAPH, value=value), True, value)
            self.assertIs(is_term(vocabulary=GRAPH, value=value), False, value)

    def test_what_is_no_atom(self):
        for value in (
            "rain", 1, None, (), TRUTH, ("rain", ROOT), ("lit",), ("lit", ROOT, ROOT), ("lit", LOOP), ("lit", E),
            ("link", LOOP, ROOT), ("lit", TRUTH), ("lit", ("rain",)), ("lit", ("lit", ROOT)), ("lit", "root"),
            ("lit", None), ("lit", 2), ("lit", ()), ("stone",), ("node",), ("node", ROOT), (("rain",),), (0,), X, E,
            ("Lit", ROOT), ("lit", ("X", "stone")), ("lit", next_of(LOOP)),
        ):
            self.assertIs(is_atom(GRAPH, value), False, value)

    def test_the_answer_depends_on_the_vocabulary_passed(self):
        small = Vocabulary(("node",), (("next", (), "node"),), ())
        for _ in range(2):
            self.assertIs(is_term(GRAPH, next_of(ROOT)), True)
            self.assertIs(is_term(small, next_of(ROOT)), False)
            self.assertIs(is_term(small, ("next",)), True)
            self.assertIs(is_term(GRAPH, ("next",)), False)

    def test_beyond_the_bounds(self):
        wide = X
        for _ in range(9):
            wide = join(wide, wide)
        self.assertIs(is_term(GRAPH, wide), True)
        self.assertEqual(size_of(wide), 1023)
        self.assertIs(is_term(GRAPH, deep_term(700)), True)
        self.assertIs(is_atom(GRAPH, ("lit", deep_term(700))), True)
        bad = LOOP
        for _ in range(700):
            bad = next_of(bad)
        self.assertIs(is_term(GRAPH, bad), False)

    def test_sort_of(self):
        for term, sort in (
            (X, "node"), (E, "edge"), (ROOT, "node"), (("arc", ROOT, X), "edge"), (TRIP, "node"),
            (("rain",), "truth"), (("lit", ROOT), "truth"), (TRUTH, "truth"),
        ):
            self.assertEqual(sort_of(GRAPH, term), sort)
        self.assertEqual(sort_of(vocabulary=GRAPH, term=X), "node")


class TestPlaces(unittest.TestCase):

    def test_variables_of(self):
        self.assertEqual(variables_of(TRIP), (X, Y))
        self.assertEqual(variables_of(join(Y, next_of(join(X, Y)))), (Y, X))
        self.assertEqual(variables_of(X), (X,))
        self.assertEqual(variables_of(ROOT), ())
        self.assertEqual(variables_of(TRUTH), ())
        self.assertEqual(variables_of(term=("link", ("X", "node"), ("X", "edge"))), (X, ("X", "edge")))

    def test_part_at(self):
        for place, wanted in (
            ((), TRIP), ((0,), next_of(X)), ((0, 0), X), ((1,), ("arc", X, Y)), ((1, 1), Y), ((2,), ROOT),
        ):
            self.assertEqual(part_at(TRIP, place), wanted)
        self.assertEqual(part_at(term=TRUTH, place=()), TRUTH)
        self.assertEqual(part_at(("lit", X), (0,)), X)

    def test_places_that_there_are_not(self):
        for term, place in (
            (TRIP, (3,)), (TRIP, (0, 1)), (TRIP, (0, 0, 0)), (TRIP, (0, 0, 1, 4)), (TRIP, (2, 0)), (TRIP, (7, 0, 0)),
            (X, (0,)), (X, (1,)), (ROOT, (0,)), (TRUTH, (0,)), (("rain",), (0,)), (("lit", X), (1,)),
            (("lit", X), (0, 0)), (TRIP, (1, 2)),
        ):
            for call in (lambda: part_at(term, place), lambda: put_at(term, place, X)):
                with self.assertRaises(BadPlace) as caught:
                    call()
                self.assertEqual(caught.exception.place, place)

    def test_put_at(self):
        self.assertEqual(put_at(TRIP, (), X), X)
        self.assertEqual(put_at(TRIP, (0,), Y), ("trip", Y, ("arc", X, Y), ROOT))
        self.assertEqual(put_at(TRIP, (0, 0), ROOT), ("trip", next_of(ROOT), ("arc", X, Y), ROOT))
        self.assertEqual(put_at(TRIP, (1, 1), LEAF), ("trip", next_of(X), ("arc", X, LEAF), ROOT))
        self.assertEqual(put_at(TRIP, (2,), LEAF), ("trip", next_of(X), ("arc", X, Y), LEAF))
        self.assertEqual(put_at(term=("lit", X), place=(0,), new=Y), ("lit", Y))
        self.assertEqual(put_at(TRUTH, (), ("rain",)), ("rain",))

    def test_a_term_put_into_itself(self):
        made = join(X, Y)
        for depth in (1, 2, 4):
            made = put_at(made, (0,) * depth, made)
        self.assertEqual(part_at(made, (0,) * 8), X)
        self.assertEqual(part_at(made, (0,) * 7), join(X, Y))
        self.assertEqual(size_of(made), 17)
        for place in inner_places(made):
            self.assertEqual(put_at(made, place, part_at(made, place)), made)

    def test_inner_places(self):
        self.assertEqual(inner_places(TRIP), ((), (0,), (1,), (2,)))
        self.assertEqual(
            inner_places(join(next_of(next_of(ROOT)), join(X, LEAF))),
            ((), (0,), (0, 0), (0, 0, 0), (1,), (1, 1)),
        )
        self.assertEqual(inner_places(X), ())
        self.assertEqual(inner_places(ROOT), ((),))
        self.assertEqual(inner_places(TRUTH), ((),))
        self.assertEqual(inner_places(term=("lit", X)), ((),))

    def test_size_of(self):
        for term, size in ((X, 1), (ROOT, 1), (TRUTH, 1), (("rain",), 1), (TRIP, 7), (("lit", next_of(X)), 3)):
            self.assertEqual(size_of(term), size)
        self.assertEqual(size_of(term=deep_term(700)), 701)

    def test_deep_terms(self):
        deep = deep_term(700)
        place = (0,) * 700
        self.assertEqual(part_at(deep, place), ROOT)
        self.assertEqual(part_at(put_at(deep, place, X), place), X)
        self.assertEqual(variables_of(put_at(deep, place, X)), (X,))
        self.assertEqual(len(inner_places(deep)), 701)


if __name__ == "__main__":
    unittest.main()
