"""Point 37: worlds with tables for witnesses."""

import unittest

from chances import SMALL, Chances
from claimworlds.clauseforms import clause_form
from claimworlds.errors import TooLong
from claimworlds.expanding import expanded_world
from claimworlds.formulatexts import read_sentence
from claimworlds.vocabularies import Vocabulary
from claimworlds.worlds import World

LAND = Vocabulary(
    ("node", "edge"), (("root", (), "node"), ("next", ("node",), "node")),
    (("lit", ("node",)), ("link", ("node", "edge")), ("past", ("node", "node"))),
)
LINK = (True, False, False, True, False, False)
PAST = (False, True, False, False, True, True, False, False, False)
WORLD = World(LAND, (3, 2), ((2,), (1, 2, 0), (False, True, True), LINK, PAST))


class TestExpandedWorld(unittest.TestCase):

    def tables(self, *texts):
        """The tables of the witnesses of some sentences, and of the constants that were made."""
        form = clause_form(LAND, [("a", read_sentence(LAND, text)) for text in texts])
        made = expanded_world(form, WORLD)
        self.assertIs(made.vocabulary, form.vocabulary)
        self.assertEqual(made.sizes, WORLD.sizes)
        count = len(LAND.functions)
        behind = len(form.vocabulary.functions)
        self.assertEqual(made.tables[:count] + made.tables[behind:], WORLD.tables)
        return list(made.tables[count:behind])

    def test_nothing(self):
        self.assertEqual(self.tables(), [(0,)])
        form = clause_form(LAND, [])
        self.assertEqual(expanded_world(form=form, world=WORLD).tables, WORLD.tables[:2] + ((0,),) + WORLD.tables[2:])

    def test_no_guides(self):
        self.assertEqual(self.tables("some X:node. lit(X)")[0], (1,))
        self.assertEqual(self.tables("some X:node. lit(X) and X != next(root) and lit(next(X))")[0], (1,))
        self.assertEqual(self.tables("some X:node. X = root")[0], (2,))
        self.assertEqual(self.tables("some E:edge. link(next(root),E)")[0], (0,))
        self.assertEqual(self.tables("some E:edge. link(next(next(root)),E)")[0], (1,))

    def test_no_such_thing(self):
        self.assertEqual(self.tables("some X:node. next(X) = X")[0], (0,))
        self.assertEqual(self.tables("all X:node. some E:edge. link(X,E)")[0], (0, 1, 0))

    def test_one_guide(self):
        self.assertEqual(self.tables("all X:node. some Y:node. past(X,Y)")[0], (1, 1, 0))
        self.assertEqual(self.tables("all X:node. some Y:node. next(Y) = X")[0], (2, 0, 1))
        self.assertEqual(self.tables("all E:edge. some X:node. link(X,E)")[0], (0, 1))
        self.assertEqual(self.tables("all X:node. some Y:node. Y != X")[0], (1, 0, 0))

    def test_two_guides_in_ascending_order(self):
        # The guides of a witness come in the order in which they occur in its formula.
        tables = self.tables("all X:node. all E:edge. some W:node. W = next(X) and link(W,E) or W = root and not link(W,E)")
        self.assertEqual(tables[:2], [(0, 1, 0, 0, 0, 0), (2, 2)])
        tables = self.tables("all X:node. all E:edge. some W:node. link(W,E) and W = next(X)")
        self.assertEqual(tables[0], (0, 0, 0, 1, 0, 0))
        tables = self.tables("all X:node. all Y:node. some W:node. not past(X,W) and W != Y")
        self.assertEqual(tables[0], (2, 0, 0, 0, 0, 0, 1, 0, 0))

    def test_a_witness_within_the_formula_of_another_one(self):
        # The least Y behind X with a W behind it, and then the least W behind that Y.
        tables = self.tables("all X:node. some Y:node. past(X,Y) and some W:node. past(Y,W) and W != Y")
        self.assertEqual(tables[:2], [(1, 1, 0), (2, 2, 1)])
        # The formula of the outer witness has quantifiers in it.
        tables = self.tables("some Y:node. all X:node. past(X,Y) implies X = Y", "some X:node. all E:edge. not link(X,E)")
        self.assertEqual(tables[:2], [(0,), (2,)])

    def test_constants_of_sorts_without_ground_terms(self):
        vocabulary = Vocabulary(("s", "t"), (("f", ("s",), "t"),), ())
        form = clause_form(vocabulary, [])
        made = expanded_world(form, World(vocabulary, (3, 2), ((1, 1, 0),)))
        self.assertEqual(made.tables, ((1, 1, 0), (0,)))
        self.assertEqual(made.value(("f", ("zd0",)), {}), 1)

    def test_the_world_that_is_passed_stays(self):
        before = (WORLD.vocabulary, WORLD.sizes, WORLD.tables)
        self.tables("some X:node. lit(X)")
        self.assertEqual(before, (WORLD.vocabulary, WORLD.sizes, WORLD.tables))

    def test_clauses_are_kept_exactly_if_the_sentences_hold(self):
        chances = Chances(37)
        kept = 0
        for _ in range(300):
            world = chances.world(2)
            sentences = [("s" + str(number), chances.sentence(3)) for number in range(2)]
            try:
                form = clause_form(SMALL, sentences)
            except TooLong:
                continue
            made = expanded_world(form, world)
            holds = all(world.holds(sentence, {}) for _, sentence in sentences)
            self.assertIs(all(made.break_of(clause) is None for clause in form.clauses), holds)
            kept += holds
        self.assertTrue(30 < kept < 270)


if __name__ == "__main__":
    unittest.main()
