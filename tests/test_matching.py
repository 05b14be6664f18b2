"""Point 25: matching."""

import itertools
import unittest

from claimworlds.fillings import Filling
from claimworlds.matching import match_terms
from claimworlds.terms import variables_of
from samples import E, LEAF, LOOP, ROOT, TRUTH, X, Y, Z, deep_term, join, next_of

SMALL = (X, Y, ROOT, LEAF)
TERMS = SMALL + tuple([next_of(one) for one in SMALL]) + tuple([join(*pair) for pair in itertools.product(SMALL, repeat=2)])
MORE = TERMS + tuple([join(one, next_of(two)) for one, two in itertools.product(SMALL, repeat=2)])


class TestMatching(unittest.TestCase):

    def finds(self, pattern, term, *pairs):
        found = match_terms(pattern, term)
        self.assertIsInstance(found, Filling)
        self.assertEqual(found.pairs, pairs)
        self.assertEqual(found(pattern), term)

    def test_matches(self):
        self.finds(X, ROOT, (X, ROOT))
        self.finds(X, X)
        self.finds(X, next_of(X), (X, next_of(X)))
        self.finds(ROOT, ROOT)
        self.finds(join(X, Y), join(Y, X), (X, Y), (Y, X))
        self.finds(join(X, X), join(next_of(X), next_of(X)), (X, next_of(X)))
        self.finds(join(X, next_of(Y)), join(Y, next_of(X)), (X, Y), (Y, X))
        self.finds(("trip", X, E, Y), ("trip", ROOT, LOOP, Y), (E, LOOP), (X, ROOT))
        self.finds(("link", X, ("X", "edge")), ("link", ROOT, LOOP), (("X", "edge"), LOOP), (X, ROOT))
        self.assertEqual(match_terms(pattern=X, term=ROOT).pairs, ((X, ROOT),))

    def test_atoms_and_the_truth(self):
        self.finds(("lit", X), ("lit", next_of(Y)), (X, next_of(Y)))
        self.finds(("rain",), ("rain",))
        self.finds(TRUTH, TRUTH)
        for pattern, term in ((("rain",), TRUTH), (TRUTH, ("rain",)), (("lit", X), ("rain",)), (("lit", X), TRUTH)):
            self.assertIsNone(match_terms(pattern, term))

    def test_no_match(self):
        for pattern, term in (
            (ROOT, LEAF), (ROOT, X), (next_of(X), X), (next_of(X), ROOT), (next_of(X), join(ROOT, ROOT)), (join(X, X), join(X, Y)),
            (join(X, X), join(ROOT, next_of(ROOT))), (join(X, next_of(X)), join(next_of(ROOT), ROOT)),
            (join(ROOT, X), join(LEAF, X)), (join(X, ROOT), join(X, LEAF)), (join(X, ROOT), join(X, Y)),
            (join(next_of(X), X), join(next_of(Y), X)), (("past", X, next_of(X)), ("past", ROOT, next_of(LEAF))),
            (next_of(next_of(ROOT)), next_of(next_of(X))),
        ):
            self.assertIsNone(match_terms(pattern, term))

    def test_variables_of_the_term_are_constants(self):
        self.assertIsNone(match_terms(join(X, ROOT), join(ROOT, X)))
        self.assertIsNone(match_terms(join(X, X), join(X, next_of(X))))
        self.finds(join(X, Y), join(Y, Y), (X, Y))
        self.assertIsNone(match_terms(join(X, X), join(Y, X)))

    def test_against_all_small_fillings(self):
        fillings = [Filling([(X, one), (Y, two)]) for one, two in itertools.product(TERMS[:12], repeat=2)]
        for pattern in MORE:
            reached = [filling(pattern) for filling in fillings]
            for term in MORE:
                found = match_terms(pattern, term)
                if term in reached:
                    self.assertIsNotNone(found)
                if found is not None:
                    self.assertEqual(found(pattern), term)
                    self.assertTrue(all(variable in variables_of(pattern) for variable, part in found.pairs))

    def test_deep_terms(self):
        self.assertEqual(match_terms(next_of(X), deep_term(700)).pairs, ((X, deep_term(699)),))
        self.assertIsNone(match_terms(deep_term(700), next_of(Z)))


if __name__ == "__main__":
    unittest.main()
