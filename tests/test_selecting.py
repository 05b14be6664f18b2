"""Point 42: selections."""

import unittest

from claimworlds.clausetexts import read_clause
from claimworlds.errors import NoSelection
from claimworlds.orders import Order
from claimworlds.selecting import selected_index
from samples import GRAPH

PLAIN = Order.plain(GRAPH)
HEAVY_LIT = Order(PLAIN.names, [9 if name == "lit" else 1 for name in PLAIN.names])
SELECTIONS = ("none", "first", "heaviest")


class TestSelectedIndex(unittest.TestCase):

    def selects(self, text, first, heaviest, order=PLAIN):
        clause = read_clause(GRAPH, text)
        self.assertIsNone(selected_index(order, "none", clause))
        self.assertEqual(selected_index(order, "first", clause), first, text)
        self.assertEqual(selected_index(order, "heaviest", clause), heaviest, text)
        for index in (first, heaviest):
            self.assertTrue(index is None or clause[index][0] is False)

    def test_no_negative_literals(self):
        self.selects("false", None, None)
        self.selects("rain", None, None)
        self.selects("lit(X:node) | root = leaf | true = true", None, None)

    def test_one_negative_literal(self):
        self.selects("not rain", 0, 0)
        self.selects("lit(X:node) | not rain", 1, 1)
        self.selects("true != true", 0, 0)
        self.selects("free(loop) | next(X:node) != X:node | rain", 1, 1)

    def test_several(self):
        # lit(..), past(..), rain.
        self.selects("not past(root,root) | not lit(root) | not rain", 0, 1)
        self.selects("not lit(next(next(root))) | not past(root,root) | not rain", 0, 0)
        self.selects("lit(root) | not past(root,root) | not rain", 1, 1)
        self.selects("lit(root) | not past(root,root) | past(next(root),next(root)) | not rain", 2, 2)
        self.selects("not lit(root) | not past(root,root)", 0, 0, HEAVY_LIT)

    def test_both_sides_weigh(self):
        # join(root,root) = leaf weighs 4, next(next(root)) = next(root) weighs 5.
        self.selects("join(root,root) != leaf | next(next(root)) != next(root)", 0, 1)
        # The truth weighs 1: past(root,root) weighs 4 with it.
        self.selects("join(root,leaf) != root | not past(root,root)", 0, 0)
        self.selects("join(root,next(leaf)) != root | not past(root,root)", 0, 1)
        self.selects("join(root,leaf) != root | not past(root,next(root))", 0, 0)

    def test_equal_weights(self):
        self.selects("not lit(leaf) | not lit(root)", 0, 0)
        self.selects("lit(leaf) | not lit(next(leaf)) | not lit(next(root)) | not lit(root)", 1, 1)
        self.selects("not lit(leaf) | not lit(next(leaf)) | not lit(next(root))", 0, 1)

    def test_keywords(self):
        clause = read_clause(GRAPH, "lit(X:node) | not rain")
        self.assertEqual(selected_index(order=PLAIN, selection="first", clause=clause), 1)

    def test_another_string(self):
        for selection in ("", "None", "last", "heaviest ", "nonefirst", "no"):
            for text in ("false", "rain", "not rain"):
                with self.assertRaises(NoSelection) as caught:
                    selected_index(PLAIN, selection, read_clause(GRAPH, text))
                self.assertEqual(caught.exception.selection, selection)


if __name__ == "__main__":
    unittest.main()
