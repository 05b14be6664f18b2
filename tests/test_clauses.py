"""Points 28 to 30: literals and clauses."""

import itertools
import unittest

from claimworlds.clauses import (
    clause_of, clause_variables, filled_clause, filled_literals, is_clause, is_tautology, literal_of, opposite_literal,
)
from claimworlds.fillings import Filling
from claimworlds.terms import size_of
from claimworlds.vocabularies import Vocabulary
from samples import E, GRAPH, LEAF, LOOP, ROOT, TRUTH, X, Y, clause, dark, deep_term, join, lit, next_of, other, same

RAIN = (True, ("rain",), TRUTH)
DRY = (False, ("rain",), TRUTH)


class TestLiterals(unittest.TestCase):

    def test_sides_either_way_round(self):
        for one, two in (
            (ROOT, LEAF), (X, ROOT), (Y, X), (next_of(X), X), (next_of(ROOT), next_of(LEAF)), (join(X, Y), join(X, X)),
            (ROOT, next_of(ROOT)), (E, ("X", "edge")),
        ):
            high, low = max(one, two), min(one, two)
            for positive in (True, False):
                self.assertEqual(literal_of(positive, one, two), (positive, high, low))
                self.assertEqual(literal_of(positive, two, one), (positive, high, low))
        self.assertEqual(literal_of(positive=True, one=LEAF, two=ROOT), (True, ROOT, LEAF))

    def test_equal_sides(self):
        for side in (X, ROOT, next_of(X), TRUTH):
            self.assertEqual(literal_of(False, side, side), (False, side, side))

    def test_an_atom_and_the_truth(self):
        for atom in (("rain",), ("lit", X), ("past", X, Y), ("free", E)):
            self.assertEqual(literal_of(True, atom, TRUTH), (True, atom, TRUTH))
            self.assertEqual(literal_of(True, TRUTH, atom), (True, atom, TRUTH))
        late = ("wet",)
        self.assertEqual(literal_of(False, TRUTH, late), (False, late, TRUTH))
        self.assertEqual(literal_of(False, late, TRUTH), (False, late, TRUTH))

    def test_opposite_literal(self):
        self.assertEqual(opposite_literal(RAIN), DRY)
        self.assertEqual(opposite_literal(literal=DRY), RAIN)
        self.assertIs(opposite_literal((True, ROOT, LEAF))[0], False)
        self.assertIs(opposite_literal((False, ROOT, LEAF))[0], True)


class TestClauses(unittest.TestCase):

    def test_clause_of(self):
        literals = [
            (True, LEAF, ROOT), (True, ROOT, LEAF), (False, LEAF, ROOT), (True, TRUTH, ("rain",)), RAIN, DRY,
            (True, X, ROOT), (True, ROOT, ROOT), (False, ("lit", X), TRUTH),
        ]
        wanted = (
            (False, ("lit", X), TRUTH), DRY, RAIN, (True, ROOT, X), (False, ROOT, LEAF), (True, ROOT, LEAF), (True, ROOT, ROOT),
        )
        self.assertEqual(clause_of(literals), wanted)
        self.assertEqual(clause_of(literals=tuple(reversed(literals))), wanted)
        self.assertEqual(clause_of(wanted), wanted)
        self.assertEqual(clause_of([]), ())
        self.assertEqual(clause_of(()), ())

    def test_order_by_each_part(self):
        for small, large in (
            ((True, ROOT, LEAF), (True, next_of(ROOT), ROOT)[:1] + (ROOT, ROOT)),
            ((True, LEAF, X), (True, ROOT, X)), ((True, ROOT, X), (True, ROOT, LEAF)), ((True, ROOT, X), (False, ROOT, LEAF)),
            ((False, ROOT, LEAF), (True, ROOT, LEAF)), ((True, ("lit", ROOT), TRUTH), (False, ("lit", X), TRUTH))[::-1],
            ((True, X, X), (True, Y, X)), ((True, ("X", "edge"), ("X", "edge")), (True, X, X)),
        ):
            self.assertEqual(clause_of([large, small]), (small, large))
            self.assertEqual(clause_of([small, large, small]), (small, large))

    def test_deep_terms(self):
        """The lines of papers may be far deeper than what is passed, and are put in order all the same."""
        deep = deep_term(3000)
        for literal in (literal_of(True, deep, deep_term(3001)), literal_of(True, deep_term(3001), deep)):
            self.assertEqual([size_of(side) for side in literal[1:]], [3001, 3002])
        made = clause_of([lit(deep_term(3001)), lit(deep), dark(deep_term(3000)), lit(deep_term(3000))])
        self.assertEqual([(literal[0], size_of(literal[1])) for literal in made], [(True, 3003), (False, 3002), (True, 3002)])
        self.assertIs(is_tautology(made), True)
        self.assertIs(is_tautology(made[:2]), False)
        self.assertIs(is_tautology(((True, deep_term(3000), deep),)), True)
        self.assertIs(is_clause(GRAPH, made), True)

    def test_deep_terms_in_what_is_no_clause(self):
        """Equal terms that were made apart, and terms that differ only at the end: no answer may go into depth."""
        deep, again, less = deep_term(20000), deep_term(20000), deep_term(20000, LEAF)
        for value, wanted in (
            (((True, deep, less),), True), (((True, less, deep),), False), (((True, deep, again),), True),
            (((True, deep, less), (True, again, less)), False), (((False, deep, less), (True, again, less)), True),
            (((True, deep, less), (False, again, less)), False), (((True, deep, X), (True, again, less)), True),
            (((True, deep, less), (True, again, X)), False),
            ((lit(less), lit(deep)), True), ((lit(deep), lit(less)), False), ((lit(deep), lit(again)), False),
            ((dark(deep), lit(again)), True), ((lit(deep), dark(again)), False), ((lit(less), lit(deep), lit(again)), False),
        ):
            self.assertIs(is_clause(GRAPH, value), wanted)

    def test_all_orders_give_one_clause(self):
        literals = [lit(X), dark(X), same(X, Y), other(X, Y), RAIN]
        wanted = clause_of(literals)
        for order in itertools.permutations(literals):
            self.assertEqual(clause_of(order), wanted)
        self.assertIs(is_clause(GRAPH, wanted), True)

    def test_is_clause(self):
        for value in (
            (), (RAIN,), (DRY, RAIN), ((True, TRUTH, TRUTH),), ((False, ROOT, ROOT),), ((True, Y, X),), ((True, X, X),),
            clause(lit(X), dark(Y), same(X, Y), other(next_of(X), ROOT)), ((True, LOOP, E),),
        ):
            self.assertIs(is_clause(GRAPH, value), True, value)
        self.assertIs(is_clause(vocabulary=GRAPH, value=()), True)

    def test_what_is_no_clause(self):
        for value in (
            None, 0, True, "", "rain", RAIN, (None,), (True,), ((),), ((True,),), (("rain",),), ((("rain",), TRUTH),),
            (RAIN[1:] + (True,),), (RAIN + (TRUTH,),), (1,), ((True, ("rain",)),), ((None, ("rain",), TRUTH),),
            ((1, ("rain",), TRUTH),), ((0, ("rain",), TRUTH),), (("True", ("rain",), TRUTH),), ((2, ROOT, LEAF),),
            ((True, LEAF, ROOT),), ((True, X, Y),), ((True, X, ROOT),), ((True, TRUTH, ("rain",)),),
            (RAIN, DRY), (RAIN, RAIN), (DRY, RAIN, RAIN), ((True, ROOT, LEAF), (False, ROOT, LEAF)),
            ((True, ROOT, X), (True, LEAF, X)), ((True, ROOT, LOOP),), ((True, X, ("X", "edge")),), ((True, E, LOOP),),
            ((True, ("rain",), ("rain",)),), ((True, ("rain",), ROOT),), ((True, ROOT, TRUTH),), ((True, X, TRUTH),),
            ((True, ("snow",), TRUTH),), ((True, ("lit", LOOP), TRUTH),), ((True, ("stone",), ("stone",)),),
            ((True, ("X", "stone"), ("X", "stone")),), ((True, ROOT, True),), ((True, False, TRUTH),), ((True, "rain", TRUTH),),
            ((True, ROOT, None),), ((True, (), ()),), ((True, ("rain",), ("true", ROOT)),), ((True, ("lit", True), TRUTH),),
            ((True, ("next", 1), ROOT),), ((True, ("next", LOOP), ROOT),), ((True, ("root", ROOT), LEAF),), ((True, ROOT, ("leaf", X)),), ((RAIN,),), (RAIN, ()), (RAIN, True),
        ):
            self.assertIs(is_clause(GRAPH, value), False, value)

    def test_terms_of_another_vocabulary(self):
        small = Vocabulary(("node",), (("root", (), "node"),), ())
        value = ((True, ROOT, LEAF),)
        for _ in range(2):
            self.assertIs(is_clause(GRAPH, value), True)
            self.assertIs(is_clause(small, value), False)
            self.assertIs(is_clause(small, ((True, ROOT, ROOT),)), True)

    def test_clause_variables(self):
        self.assertEqual(clause_variables(()), ())
        self.assertEqual(clause_variables((RAIN,)), ())
        self.assertEqual(clause_variables(((True, Y, X),)), (Y, X))
        self.assertEqual(clause_variables(clause=((True, join(X, E), Y), (False, ("lit", Y), TRUTH))), (X, E, Y))
        self.assertEqual(clause_variables(((True, ROOT, Y), (True, join(X, ("X", "edge")), X))), (Y, X, ("X", "edge")))

    def test_filled_literals(self):
        filling = Filling([(X, ROOT), (Y, ROOT)])
        self.assertEqual(
            filled_literals([(True, ROOT, X), lit(Y), (True, LEAF, Y), lit(X)], filling),
            ((True, ROOT, ROOT), lit(ROOT), (True, ROOT, LEAF), lit(ROOT)),
        )
        self.assertEqual(filled_literals(literals=(), filling=filling), ())
        turn = Filling([(X, Y), (Y, X)])
        self.assertEqual(filled_literals(((True, Y, X), (False, join(Y, X), X)), turn), ((True, Y, X), (False, join(X, Y), Y)))

    def test_filled_clause(self):
        filling = Filling([(X, ROOT), (Y, ROOT)])
        made = clause(lit(X), lit(Y), same(X, LEAF), dark(join(X, Y)))
        self.assertEqual(filled_clause(made, filling), clause(lit(ROOT), (True, ROOT, LEAF), dark(join(ROOT, ROOT))))
        self.assertEqual(filled_clause(clause=(), filling=filling), ())
        self.assertEqual(filled_clause(clause(lit(X), lit(Y)), Filling([(X, Y), (Y, X)])), clause(lit(X), lit(Y)))

    def test_is_tautology(self):
        for value, wanted in (
            ((), False), ((RAIN,), False), ((DRY, RAIN), True), (clause((True, X, X)), True), (clause((False, X, X)), False),
            (clause((True, TRUTH, TRUTH)), True), (clause((False, TRUTH, TRUTH)), False), (clause(lit(X), dark(X)), True),
            (clause(lit(X), dark(Y)), False), (clause(same(X, Y), other(Y, X)), True), (clause(same(X, Y), other(X, ROOT)), False),
            (clause(RAIN, lit(X), same(next_of(ROOT), next_of(ROOT)), dark(Y)), True),
            (clause(lit(ROOT), lit(X), DRY, other(ROOT, ROOT), same(X, Y)), False),
            (clause(same(ROOT, X), other(ROOT, LEAF)), False), (clause(same(ROOT, X), same(ROOT, LEAF), other(LEAF, ROOT)), True),
        ):
            self.assertIs(is_tautology(value), wanted, value)
        self.assertIs(is_tautology(clause=()), False)


if __name__ == "__main__":
    unittest.main()
