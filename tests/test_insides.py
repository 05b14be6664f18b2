"""Point 31: clauses inside other clauses, and variants."""

import itertools
import random
import unittest

from claimworlds.clauses import clause_of, clause_variables, filled_clause, filled_literals, literal_of
from claimworlds.fillings import Filling, fresh_filling
from claimworlds.insides import are_variants, inside
from claimworlds.terms import inner_places, is_variable, part_at, size_of, sort_of
from claimworlds.vocabularies import Vocabulary
from samples import (
    E, GRAPH, LEAF, LOOP, ROOT, TRUTH, X, Y, Z, clause, dark, deep_term, join, lit, next_of, other, past, same,
)

RAIN = (True, ("rain",), TRUTH)


def is_inside_by(one, two, filling):
    filled = filled_literals(one, filling)
    return len(set(filled)) == len(one) and all(literal in two for literal in filled)


def all_parts(made):
    """Every term that stands somewhere in a clause."""
    found = []
    for positive, left, right in made:
        for side in (left, right):
            found.extend([part_at(side, place) for place in inner_places(side)])
    return sorted(set(found) | set(clause_variables(made)))


def is_inside(one, two):
    """The answer of a search through all fillings by parts of the other clause."""
    variables = clause_variables(one)
    choices = [[part for part in all_parts(two) if sort_of(GRAPH, part) == sort] for name, sort in variables]
    return any(
        is_inside_by(one, two, Filling(list(zip(variables, parts)))) for parts in itertools.product(*choices)
    )


def small_clause(chance):
    """Some clause of up to four literals."""
    leaves = [X, Y, ROOT, LEAF]
    literals = []
    for _ in range(chance.randrange(1, 5)):
        sides = [chance.choice(leaves), chance.choice(leaves), next_of(chance.choice(leaves))]
        left, right = chance.choice(sides), chance.choice(sides)
        positive = chance.random() < 0.7
        literals.append(chance.choice([
            literal_of(positive, left, right), (positive, ("lit", left), TRUTH), (positive, ("past", left, right), TRUTH),
            (positive, ("past", right, left), TRUTH), literal_of(positive, E, ("arc", left, right)),
        ]))
    return clause_of(literals)


class TestInside(unittest.TestCase):

    def finds(self, one, two):
        found = inside(GRAPH, one, two)
        self.assertIsInstance(found, Filling, (one, two))
        self.assertTrue(is_inside_by(one, two, found), (one, two))
        for variable, part in found.pairs:
            self.assertIn(variable, clause_variables(one))
            self.assertEqual(sort_of(GRAPH, part), variable[1])
        return found

    def finds_none(self, one, two):
        self.assertIsNone(inside(GRAPH, one, two), (one, two))

    def test_one_literal(self):
        self.assertEqual(self.finds(clause(lit(X)), clause(lit(ROOT), RAIN)).pairs, ((X, ROOT),))
        self.finds(clause(lit(X)), clause(lit(next_of(X)), lit(Y)))
        self.finds_none(clause(lit(X)), clause(dark(ROOT), RAIN))
        self.finds_none(clause(dark(X)), clause(lit(ROOT), RAIN))
        self.finds_none(clause(lit(next_of(X))), clause(lit(ROOT), lit(Y)))
        self.assertEqual(inside(vocabulary=GRAPH, one=clause(lit(X)), two=clause(lit(ROOT))).pairs, ((X, ROOT),))

    def test_the_empty_clause(self):
        self.assertEqual(self.finds((), ()).pairs, ())
        self.assertEqual(self.finds((), clause(lit(X))).pairs, ())
        self.finds_none(clause(lit(X)), ())

    def test_the_same_clause(self):
        made = clause(lit(X), dark(Y), same(X, next_of(Y)), past(Y, X))
        self.assertEqual(self.finds(made, made).pairs, ())

    def test_literals_that_become_equal(self):
        self.finds_none(clause(lit(X), lit(Y)), clause(lit(ROOT), RAIN))
        self.finds_none(clause(lit(X), lit(Y)), clause(lit(ROOT)))
        self.finds(clause(lit(X), lit(Y)), clause(lit(ROOT), lit(LEAF)))
        self.finds_none(clause(lit(X), lit(Y), lit(Z)), clause(lit(ROOT), lit(LEAF), RAIN, dark(X)))
        self.finds_none(clause(same(X, Y), same(Y, Z)), clause(same(ROOT, LEAF), RAIN))
        self.finds(clause(same(X, Y), same(Y, Z)), clause(same(ROOT, LEAF), same(LEAF, X)))

    def test_more_literals_than_the_other(self):
        self.finds_none(clause(lit(X), RAIN), clause(lit(X)))
        self.finds_none(clause(lit(X), lit(Y)), clause(lit(X)))

    def test_sides_that_change_their_order(self):
        self.finds(((True, Y, X),), ((True, ROOT, LEAF),))
        self.finds(clause(same(X, Y), lit(X)), clause(same(ROOT, LEAF), lit(ROOT)))
        self.finds(clause(same(X, Y), lit(X)), clause(same(ROOT, LEAF), lit(LEAF)))
        self.finds(clause(same(X, LEAF)), clause(same(LEAF, Y)))
        self.finds(clause(same(next_of(X), Y)), clause(same(next_of(ROOT), ("trip", ROOT, LOOP, ROOT))))
        self.finds(clause(other(join(X, Y), join(Y, X))), clause(other(join(ROOT, LEAF), join(LEAF, ROOT))))
        self.finds_none(clause(same(X, Y), lit(X), lit(Y)), clause(same(ROOT, LEAF), lit(LEAF), lit(Z)))

    def test_variables_of_the_other_clause_are_constants(self):
        self.finds_none(clause(lit(ROOT)), clause(lit(X)))
        self.finds_none(clause(past(X, ROOT)), clause(past(ROOT, X)))
        self.finds(clause(past(X, Y)), clause(past(Y, X)))
        self.finds_none(clause(past(X, X)), clause(past(Y, X)))
        self.finds(clause(past(X, Y), lit(Y)), clause(past(Y, next_of(Y)), lit(next_of(Y))))
        self.finds_none(clause(past(X, Y), lit(Y)), clause(past(Y, next_of(Y)), lit(Y)))

    def test_sorts(self):
        self.finds_none(clause(same(X, Y)), clause(same(LOOP, E)))
        self.finds_none(clause(same(X, X)), clause((True, TRUTH, TRUTH)))
        self.finds_none(clause(same(X, Y)), clause(lit(ROOT)))
        self.finds_none(clause(same(X, Y)), clause(same(("E", "edge"), ("X", "edge"))))
        self.finds(clause(same(X, Y)), clause(same(LOOP, E), same(ROOT, LEAF)))
        self.finds(clause((True, TRUTH, TRUTH)), clause((True, TRUTH, TRUTH), RAIN))
        self.finds_none(clause(lit(X)), clause((True, TRUTH, TRUTH)))
        edge = ("X", "edge")
        self.finds(clause((True, ("link", X, edge), TRUTH)), clause((True, ("link", ROOT, LOOP), TRUTH)))

    def test_the_vocabulary_tells_the_sorts(self):
        turned = Vocabulary(("edge", "node"), (("root", (), "edge"), ("leaf", (), "edge"), ("loop", (), "node")), ())
        for _ in range(2):
            self.finds_none(clause(same(E, ("F", "edge"))), clause(same(ROOT, LEAF)))
            self.assertIsNotNone(inside(turned, clause(same(E, ("F", "edge"))), clause(same(ROOT, LEAF))))

    def test_against_a_search_through_all_fillings(self):
        chance = random.Random(7)
        many = [0, 0]
        for _ in range(2500):
            one, two = small_clause(chance), small_clause(chance)
            if chance.random() < 0.3:
                filling = Filling([(X, chance.choice([Y, ROOT, next_of(X)])), (Y, chance.choice([X, LEAF, Y]))])
                two = clause_of(two[:2] + filled_clause(one, filling))
            wanted = is_inside(one, two)
            many[wanted] += 1
            if wanted:
                self.finds(one, two)
            else:
                self.finds_none(one, two)
        self.assertGreater(min(many), 400)

    def test_many_literals_and_one_that_fits_nowhere(self):
        for k in (6, 12, 40):
            names = [("X" + str(index), "node") for index in range(k)]
            goals = clause_of([lit(("Y" + str(index), "node")) for index in range(k)] + [RAIN, past(X, Y), past(Y, Z)])
            self.finds(clause_of([lit(name) for name in names]), goals)
            self.finds_none(clause_of([lit(name) for name in names] + [dark(X)]), goals)
            self.finds_none(clause_of([lit(name) for name in names] + [lit(Z)]), goals)
            self.finds_none(clause_of([lit(name) for name in names] + [past(X, names[0])]), goals)
            self.finds(clause_of([lit(name) for name in names] + [past(Z, X), past(Y, Z)]), goals)
            self.finds_none(clause_of([lit(name) for name in names[1:]] + [past(Z, X), past(X, X)]), goals)

    def test_chains_of_literals(self):
        names = [("X" + str(index), "node") for index in range(12)]
        chain = clause_of([past(one, two) for one, two in zip(names, names[1:])])
        self.finds(chain, chain)
        backwards = clause_of([past(two, one) for one, two in zip(names, names[1:])])
        self.finds(chain, backwards)
        self.finds_none(chain, clause_of(chain[1:] + (past(names[3], names[0]),)))

    def test_the_literal_with_the_fewest_ways_comes_first(self):
        names = [("X" + str(index), "node") for index in range(14)]
        for pair in (past, lambda one, two: same(join(one, two), LEAF)):
            ring = [pair(X, Y), pair(Y, Z), pair(Z, X)]
            for k in (4, 14):
                literals = [lit(name) for name in names[:k]]
                self.finds_none(clause_of(literals + [pair(X, Y), pair(Y, X)]), clause_of(literals + ring))
                self.finds(clause_of(literals + ring), clause_of(literals + ring + [pair(X, X)]))

    def test_deep_terms(self):
        """What is asked of one variable twice are equal terms that were made apart, or terms that differ at the end."""
        deep, again, less = deep_term(20000), deep_term(20000), deep_term(20000, LEAF)
        both = clause(lit(X), past(X, Y))
        for one, two, sizes in (
            (both, clause(lit(deep), past(again, ROOT)), [20001, 1]), (both, clause(lit(deep), past(less, ROOT)), None),
            (clause(lit(X), lit(Y), past(X, Y)), clause(lit(deep), lit(less), past(again, less)), [20001, 20001]),
            (clause(lit(X), past(X, X)), clause(lit(deep), past(again, deep)), [20001]),
            (clause(lit(X), past(X, X)), clause(lit(deep), past(again, less)), None),
            (clause(same(deep, less)), clause(same(less, again)), []), (clause(same(deep, again)), clause(same(deep, less)), None),
            (clause(same(X, X)), clause(same(deep, again)), [20001]), (clause(same(X, X)), clause(same(deep, less)), None),
            (clause(same(X, Y), lit(X)), clause(same(deep, less), lit(again)), [20001, 20001]),
            (clause(same(X, Y), lit(X)), clause(same(deep, less), lit(ROOT)), None),
            (clause(same(deep_term(20000, X), Y), lit(X)), clause(same(deep, less), lit(LEAF)), [1, 20001]),
        ):
            found = inside(GRAPH, one, two)
            self.assertEqual(None if found is None else [size_of(part) for _, part in found.pairs], sizes)

    def test_very_many_literals(self):
        """Each literal could stand in two places, and the last one could only if all others moved on."""
        count = 1100
        names = ["c" + str(index) for index in range(count + 1)]
        line = Vocabulary(("s",), [(name, (), "s") for name in names], [("p", ("s",))])
        ones = [literal_of(True, (name,), ("X" + str(index), "s")) for index, name in enumerate(names)]
        twos = [literal_of(True, (one,), (two,)) for one, two in zip(names, names[1:])]
        fact = (True, ("p", (names[0],)), TRUTH)
        self.assertIsNone(inside(line, clause_of(ones), clause_of(twos + [fact])))
        self.assertIs(are_variants(clause_of(ones), clause_of(twos + [fact])), False)


class TestVariants(unittest.TestCase):

    def check(self, wanted, one, two):
        self.assertIs(are_variants(one, two), wanted, (one, two))
        self.assertIs(are_variants(two, one), wanted, (two, one))

    def test_variants(self):
        self.check(True, (), ())
        self.check(True, clause(lit(X)), clause(lit(Y)))
        self.check(True, clause(lit(X)), clause(lit(X)))
        self.check(True, clause(past(X, Y)), clause(past(Y, X)))
        self.check(True, clause(same(X, Y)), clause(same(Z, X)))
        self.check(True, clause(same(X, Y), lit(X)), clause(same(X, Y), lit(Y)))
        self.check(True, clause(lit(X), lit(Y), past(X, Y)), clause(lit(Z), lit(X), past(Z, X)))
        self.check(True, clause(RAIN), clause(RAIN))
        self.check(True, clause(lit(ROOT)), clause(lit(ROOT)))
        self.assertIs(are_variants(one=(), two=()), True)

    def test_no_variants(self):
        self.check(False, (), clause(lit(X)))
        self.check(False, clause(lit(X)), clause(dark(X)))
        self.check(False, clause(lit(X)), clause(lit(ROOT)))
        self.check(False, clause(lit(X)), clause(lit(X), RAIN))
        self.check(False, clause(past(X, Y)), clause(past(X, X)))
        self.check(False, clause(lit(X), lit(Y)), clause(lit(X)))
        self.check(False, clause(same(X, Y)), clause(same(E, ("F", "edge"))))
        self.check(False, clause(lit(X), past(X, Y)), clause(lit(Y), past(X, Y)))
        self.check(False, clause(lit(next_of(X))), clause(lit(X)))
        self.check(False, clause(past(X, Y), past(Y, Z)), clause(past(X, Y), past(X, Z)))
        self.check(False, clause(same(X, ROOT)), clause(same(LEAF, ROOT)))

    def test_deep_terms(self):
        """The answer is looked for among terms that were made apart, and that differ at the end only."""
        deep, again, less = deep_term(20000), deep_term(20000), deep_term(20000, LEAF)
        for one, two, wanted in (
            (clause(same(deep, less)), clause(same(less, again)), True), (clause(same(deep, less)), clause(same(deep, again)), False),
            (clause(lit(deep)), clause(lit(again)), True), (clause(lit(deep)), clause(lit(less)), False),
            (clause(past(X, deep)), clause(past(Y, again)), True), (clause(past(X, deep)), clause(past(less, again)), False),
            (clause(lit(deep_term(20000, X))), clause(lit(deep_term(20000, Y))), True),
            (clause(past(X, deep_term(20000, Y))), clause(past(X, deep_term(20000, X))), False),
        ):
            self.assertIs(are_variants(one, two), wanted)
            self.assertIs(are_variants(two, one), wanted)

    def test_renamed_clauses(self):
        chance = random.Random(11)
        for _ in range(500):
            one = small_clause(chance)
            variables = clause_variables(one)
            two = filled_clause(one, fresh_filling(variables, 5))
            self.check(True, one, two)
            self.check(True, one, filled_clause(one, Filling([(X, Y), (Y, X)])))

    def test_against_a_search_through_all_renamings(self):
        chance = random.Random(13)
        many = [0, 0]
        changes = [[(X, Y), (Y, X)], [(X, Y)], [(Y, Z)], [(X, Y), (Y, Z)], [(X, ROOT)], [(E, ("F", "edge"))]]
        for _ in range(2000):
            one, two = small_clause(chance), small_clause(chance)
            if chance.random() < 0.5:
                two = filled_clause(one, Filling(chance.choice(changes)))
            variables = clause_variables(one)
            wanted = any(
                filled_clause(one, Filling(list(zip(variables, names)))) == two
                for names in itertools.permutations(clause_variables(two), len(variables))
                if all(name[1] == variable[1] and is_variable(name) for name, variable in zip(names, variables))
            )
            many[wanted] += 1
            self.assertIs(are_variants(one, two), wanted, (one, two))
        self.assertGreater(min(many), 400)


if __name__ == "__main__":
    unittest.main()
