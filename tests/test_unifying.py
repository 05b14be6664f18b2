"""Point 26: unifying."""

import itertools
import unittest

from claimworlds.fillings import Filling
from claimworlds.terms import variables_of
from claimworlds.unifying import unify_terms
from samples import E, F, LEAF, LOOP, ROOT, TRUTH, X, Y, Z, deep_term, join, next_of

VARIABLES = (X, Y, Z)
SMALL = VARIABLES + (ROOT,)
TERMS = SMALL + tuple([next_of(one) for one in SMALL]) + tuple([join(*pair) for pair in itertools.product(SMALL, repeat=2)])
MORE = TERMS + tuple([join(one, next_of(two)) for one, two in itertools.product(SMALL, repeat=2)])
GROUND = (ROOT, LEAF, next_of(ROOT), join(ROOT, ROOT), next_of(next_of(ROOT)))
OTHERS = [
    Filling(list(zip(VARIABLES, parts)))
    for parts in itertools.product(GROUND + (X, Y, next_of(X), next_of(Z)), repeat=3)
]


class TestUnifying(unittest.TestCase):

    def check(self, one, two):
        """The filling is one as the point says, but for its being the widest; it is returned."""
        found = unify_terms(one, two)
        self.assertIsInstance(found, Filling, (one, two))
        self.assertEqual(found(one), found(two))
        there = variables_of(("past", one, two))
        for variable, part in found.pairs:
            self.assertIn(variable, there)
            for inner in variables_of(part):
                self.assertIn(inner, there)
        self.assertEqual((found >> found).pairs, found.pairs)
        return found

    def test_common_fillings(self):
        self.assertEqual(self.check(X, ROOT).pairs, ((X, ROOT),))
        self.assertEqual(self.check(ROOT, X).pairs, ((X, ROOT),))
        self.assertEqual(self.check(X, X).pairs, ())
        self.assertEqual(self.check(ROOT, ROOT).pairs, ())
        self.assertEqual(self.check(join(X, Y), join(X, Y)).pairs, ())
        self.assertIn(self.check(X, Y).pairs, (((X, Y),), ((Y, X),)))
        self.assertEqual(self.check(join(X, ROOT), join(LEAF, Y)).pairs, ((X, LEAF), (Y, ROOT)))
        self.assertEqual(unify_terms(one=X, two=ROOT).pairs, ((X, ROOT),))

    def test_variables_that_lead_to_one_another(self):
        self.assertEqual(self.check(join(X, join(Y, Z)), join(Y, join(Z, ROOT))).pairs, ((X, ROOT), (Y, ROOT), (Z, ROOT)))
        self.assertEqual(
            self.check(join(X, Y), join(next_of(Y), next_of(Z))).pairs,
            ((X, next_of(next_of(Z))), (Y, next_of(Z))),
        )
        self.assertEqual(self.check(join(join(X, Y), X), join(join(Y, X), ROOT)).pairs, ((X, ROOT), (Y, ROOT)))
        ring = self.check(join(X, join(Y, Z)), join(Y, join(Z, X)))
        self.assertEqual(len(ring.pairs), 2)
        self.assertEqual(self.check(join(join(X, Y), join(X, X)), join(join(Y, Z), join(Z, ROOT)))(Y), ROOT)

    def test_a_variable_within_the_term_it_would_get(self):
        for one, two in (
            (X, next_of(X)), (next_of(X), X), (join(X, Y), join(next_of(Y), next_of(X))), (join(X, X), join(Y, next_of(Y))),
            (join(X, join(Y, Z)), join(next_of(Y), join(next_of(Z), next_of(X)))), (next_of(next_of(X)), next_of(X)),
            (join(X, join(X, Y)), join(join(Y, Y), join(Y, X))), (("past", X, X), ("past", Y, next_of(Y))),
        ):
            self.assertIsNone(unify_terms(one, two), (one, two))

    def test_no_common_filling(self):
        for one, two in (
            (ROOT, LEAF), (next_of(X), ROOT), (next_of(X), join(Y, Z)), (join(X, X), join(ROOT, LEAF)),
            (join(X, join(X, Y)), join(Y, join(ROOT, LEAF))), (("lit", ROOT), ("lit", LEAF)), (("lit", X), ("rain",)),
            (("rain",), TRUTH), (TRUTH, ("lit", X)), (("trip", X, LOOP, X), ("trip", ROOT, ("arc", Y, Z), Y)),
        ):
            self.assertIsNone(unify_terms(one, two), (one, two))

    def test_atoms_the_truth_and_sorts(self):
        self.assertEqual(self.check(TRUTH, TRUTH).pairs, ())
        self.assertEqual(self.check(("rain",), ("rain",)).pairs, ())
        self.assertEqual(self.check(("lit", X), ("lit", next_of(Y))).pairs, ((X, next_of(Y)),))
        self.assertEqual(self.check(("trip", X, E, X), ("trip", ROOT, F, Y))(Y), ROOT)
        edge = ("X", "edge")
        self.assertEqual(self.check(("link", X, edge), ("link", ROOT, LOOP)).pairs, ((edge, LOOP), (X, ROOT)))

    def test_the_widest_of_all(self):
        for one, two in itertools.combinations_with_replacement(MORE, 2):
            found = unify_terms(one, two)
            if found is not None:
                self.check(one, two)
            for other in OTHERS[::7]:
                if other(one) == other(two):
                    self.assertIsNotNone(found, (one, two))
                    for variable in VARIABLES:
                        self.assertEqual(other(variable), other(found(variable)), (one, two))

    def test_all_small_fillings_go_through_it(self):
        for one, two in (
            (join(X, Y), join(Y, Z)), (join(X, next_of(Y)), join(next_of(Z), X)), (join(X, Y), join(next_of(Z), X)),
            (join(next_of(X), next_of(Y)), join(Y, Z)),
        ):
            found = self.check(one, two)
            for other in OTHERS:
                if other(one) == other(two):
                    for variable in VARIABLES:
                        self.assertEqual(other(variable), other(found(variable)))

    def test_deep_terms(self):
        term = X
        for _ in range(700):
            term = next_of(term)
        self.assertEqual(unify_terms(term, deep_term(701)).pairs, ((X, next_of(ROOT)),))
        self.assertIsNone(unify_terms(term, deep_term(699)))

    def test_terms_that_stand_for_far_larger_ones(self):
        names = [("X" + str(k), "node") for k in range(30)]
        one = ROOT
        two = ROOT
        for small, large in zip(names, names[1:]):
            one = join(large, one)
            two = join(join(small, small), two)
        found = unify_terms(one, two)
        self.assertEqual(len(found.pairs), 29)
        self.assertEqual(dict(found.pairs)[names[2]], join(join(names[0], names[0]), join(names[0], names[0])))
        self.assertIsNone(unify_terms(join(names[0], one), join(next_of(names[29]), two)))


if __name__ == "__main__":
    unittest.main()
