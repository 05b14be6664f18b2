"""Points 24 and 27: fillings."""

import itertools
import unittest

from claimworlds.errors import FilledTwice
from claimworlds.fillings import Filling, fresh_filling
from samples import E, F, LEAF, LOOP, ROOT, TRUTH, X, Y, Z, deep_term, join, next_of

X_EDGE = ("X", "edge")
TERMS = (X, Y, Z, E, ROOT, TRUTH, next_of(X), join(X, join(Y, Z)), ("arc", next_of(Y), X), ("lit", X), ("free", E), ("rain",))


class TestFillings(unittest.TestCase):

    def test_filling_a_term(self):
        filling = Filling([(X, ROOT), (E, LOOP)])
        for term, wanted in (
            (X, ROOT), (Y, Y), (E, LOOP), (X_EDGE, X_EDGE), (LEAF, LEAF), (TRUTH, TRUTH),
            (join(X, next_of(X)), join(ROOT, next_of(ROOT))),
            (("trip", X, E, Y), ("trip", ROOT, LOOP, Y)), (("link", Y, E), ("link", Y, LOOP)), (("rain",), ("rain",)),
        ):
            self.assertEqual(filling(term), wanted)
        self.assertEqual(filling(term=X), ROOT)

    def test_all_variables_at_once(self):
        swap = Filling(pairs=[(X, Y), (Y, X)])
        self.assertEqual(swap(join(X, next_of(Y))), join(Y, next_of(X)))
        self.assertEqual(swap.pairs, ((X, Y), (Y, X)))
        grow = Filling(((X, next_of(X)),))
        self.assertEqual(grow(join(X, X)), join(next_of(X), next_of(X)))
        turn = Filling([(X, Y), (Y, Z), (Z, X)])
        self.assertEqual(turn(("trip", X, ("arc", Y, Z), Y)), ("trip", Y, ("arc", Z, X), Z))

    def test_equal_names_in_two_sorts(self):
        filling = Filling([(X, ROOT), (X_EDGE, LOOP)])
        self.assertEqual(filling(("trip", X, X_EDGE, X)), ("trip", ROOT, LOOP, ROOT))
        self.assertEqual(filling.pairs, ((X_EDGE, LOOP), (X, ROOT)))
        self.assertEqual(Filling([(X, ROOT)])(X_EDGE), X_EDGE)

    def test_pairs(self):
        passed = [(Z, ROOT), (Y, Y), (E, LOOP), (X, next_of(X)), (X_EDGE, X_EDGE)]
        filling = Filling(passed)
        self.assertEqual(filling.pairs, ((E, LOOP), (X, next_of(X)), (Z, ROOT)))
        passed.append((F, LOOP))
        self.assertEqual(filling.pairs, ((E, LOOP), (X, next_of(X)), (Z, ROOT)))
        self.assertEqual(filling(F), F)
        self.assertEqual(Filling([]).pairs, ())
        self.assertEqual(Filling([(("X1", "node"), ROOT), (X, LEAF)]).pairs, ((X, LEAF), (("X1", "node"), ROOT)))

    def test_filled_twice(self):
        for pairs, variable in (
            ([(X, ROOT), (X, ROOT)], X), ([(X, ROOT), (X, LEAF)], X), ([(X, X), (X, X)], X), ([(X, X), (X, ROOT)], X),
            ([(X, ROOT), (Y, ROOT), (Y, LEAF), (X, LEAF)], Y), ([(X, ROOT), (X_EDGE, LOOP), (X_EDGE, LOOP)], X_EDGE),
        ):
            with self.assertRaises(FilledTwice) as caught:
                Filling(pairs)
            self.assertEqual(caught.exception.variable, variable)

    def test_deep_terms(self):
        term = X
        for _ in range(700):
            term = next_of(term)
        self.assertEqual(Filling([(X, ROOT)])(term), deep_term(700))


class TestOneAfterTheOther(unittest.TestCase):

    FILLINGS = tuple([Filling(pairs) for pairs in (
        (), ((X, X),), ((X, ROOT),), ((X, Y),), ((Y, X),), ((X, Y), (Y, X)), ((X, next_of(X)),), ((X, next_of(Y)), (Y, next_of(Z))),
        ((X, Y), (Y, Z), (Z, X)), ((X, X), (Y, ROOT), (E, LOOP)), ((E, F), (F, ("arc", X, X))), ((X_EDGE, E), (X, Z)),
    )])

    def check_pairs(self, filling):
        variables = [variable for variable, term in filling.pairs]
        self.assertEqual(variables, sorted(set(variables)))
        for variable, term in filling.pairs:
            self.assertNotEqual(variable, term)
            self.assertEqual(filling(variable), term)

    def test_two(self):
        for one, two in itertools.product(self.FILLINGS, repeat=2):
            both = one >> two
            self.assertIsInstance(both, Filling)
            self.check_pairs(both)
            for term in TERMS:
                self.assertEqual(both(term), two(one(term)))

    def test_three(self):
        for one, two, three in itertools.product(self.FILLINGS, repeat=3):
            left = (one >> two) >> three
            right = one >> (two >> three)
            self.assertEqual(left.pairs, right.pairs)
            for term in TERMS[:8]:
                self.assertEqual(left(term), three(two(one(term))))

    def test_pairs_that_go_back_are_left_out(self):
        swap = Filling([(X, Y), (Y, X)])
        self.assertEqual((swap >> swap).pairs, ())
        self.assertEqual((Filling([(X, Y)]) >> Filling([(Y, X)])).pairs, ((Y, X),))

    def test_a_pair_of_a_variable_and_itself(self):
        self.assertEqual((Filling([(X, X)]) >> Filling([(X, ROOT)])).pairs, ((X, ROOT),))

    def test_the_first_ones_stay(self):
        one = Filling([(X, Y)])
        two = Filling([(Y, ROOT)])
        self.assertEqual((one >> two).pairs, ((X, ROOT), (Y, ROOT)))
        self.assertEqual((one.pairs, two.pairs), (((X, Y),), ((Y, ROOT),)))


class TestFreshFillings(unittest.TestCase):

    def test_starts(self):
        for start in (0, 9, 99, 9000):
            filling = fresh_filling([X, E, Y], start)
            self.assertEqual(filling(X), (f"Z{start}", "node"))
            self.assertEqual(filling(E), (f"Z{start + 1}", "edge"))
            self.assertEqual(filling(Y), (f"Z{start + 2}", "node"))
            self.assertEqual(len(filling.pairs), 3)
        self.assertEqual(fresh_filling(variables=(X,), start=7).pairs, ((X, ("Z7", "node")),))
        self.assertEqual(fresh_filling((), 0).pairs, ())

    def test_variables_that_have_such_names(self):
        one = ("Z0", "node")
        two = ("Z1", "node")
        swap = fresh_filling([two, one], 0)
        self.assertEqual(swap(join(one, two)), join(two, one))
        self.assertEqual(fresh_filling([one, two], 0).pairs, ())
        self.assertEqual(fresh_filling([one, X], 0).pairs, ((X, two),))
        self.assertEqual(fresh_filling([("Z0", "edge"), one], 0)(one), two)


if __name__ == "__main__":
    unittest.main()
