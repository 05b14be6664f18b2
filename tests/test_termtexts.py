"""Points 15 and 16: texts of terms, and the three rounds of reading them."""

import unittest

from claimworlds.errors import BadText, UnknownName, WrongCount, WrongSort
from claimworlds.names import WORDS
from claimworlds.termtexts import read_term, term_text
from claimworlds.vocabularies import Vocabulary
from samples import E, GRAPH, LEAF, LOOP, ROOT, TRUTH, X, Y, deep_term, join, next_of

TRIP = ("trip", next_of(X), ("arc", Y, ROOT), X)
TRIP_TEXT = "trip(next(X:node),arc(Y:node,root),X:node)"


class TestTermTexts(unittest.TestCase):
    """In the texts a mark @ stands before the column that the error tells; it is taken out first."""

    def refuses(self, error, marked, vocabulary=GRAPH):
        with self.assertRaises(error, msg=marked) as caught:
            read_term(vocabulary, marked.replace("@", ""))
        self.assertEqual(type(caught.exception), error, marked)
        self.assertEqual(caught.exception.column, marked.index("@"), marked)

    def test_term_text(self):
        for term, text in (
            (X, "X:node"), (E, "E:edge"), (ROOT, "root"), (next_of(X), "next(X:node)"), (TRIP, TRIP_TEXT),
            (TRUTH, "true"), (("rain",), "rain"), (("past", ROOT, X), "past(root,X:node)"),
        ):
            self.assertEqual(term_text(term), text)
        self.assertEqual(term_text(term=X), "X:node")

    def test_read_term(self):
        for term in (X, E, ROOT, LOOP, next_of(X), join(ROOT, join(LEAF, next_of(Y))), TRIP, deep_term(20)):
            self.assertEqual(read_term(GRAPH, term_text(term)), term)
        self.assertEqual(read_term(vocabulary=GRAPH, text="root"), ROOT)

    def test_spaces_and_newlines(self):
        for text in (
            " X:node", "X :node", "X: node ", "\nX\n:\n\n node\n", "X:node",
        ):
            self.assertEqual(read_term(GRAPH, text), X)
        self.assertEqual(read_term(GRAPH, " trip ( next(X : node) ,\narc(Y:node , root), X:node\n) "), TRIP)

    def test_round_one(self):
        for marked in (
            "@%", "@1a", "@_", "@XY", "@toolongname", "@Toolongname", "@rooT", "@{",
            "root@-", "root@!", "root @!", "root @;", "root@\t", "next@[root]", "a@-b",
            "next(@12)", "root @AA:node", "X:node@\\", "(@rooT", "   @aaaaaaaaa", "X:node@\xe9",
            "!=@!", "(((((((((@~", "(@Predicate", "(@predicates", "(,root!=@!",
        ):
            self.refuses(BadText, marked)

    def test_round_one_wins(self):
        self.refuses(BadText, "stone()) ( )@1")
        self.refuses(BadText, "next(loop) @&")
        self.refuses(BadText, "X:stone X,(a@_")
        self.refuses(BadText, "(   @_ rooT")
        self.refuses(BadText, "(   @rooT _")

    def test_round_two(self):
        for marked in (
            "@", "   @", "\n@", "@(", "@)", "@,", "@:", "@=", "@!=", "@.", "@|",
            "@true", "@false", "@all", "@truth", "@predicate", "@sort", "@axiom",
            "X@", "X @", "X:@", "X:@X", "X:@true", "X:@(", "X:@predicate", "X @node",
            "X@(root)", "X:node@(", "X:node@:node", "next(@", "next(@)", "next( @)",
            "next(root@", "next(root(@", "next(root,@", "next(root,@)",
            "next(@,root)", "next(root)@)", "next(root)@root", "next(root) @(root)",
            "root @root", "root@,root", "root@=root", "next(@true)", "next(@(root))", "@(root)",
            "next(root @leaf)", "next(@not root)", "next(root@=leaf)", "next(X@)", "next(X@,root)",
        ):
            self.refuses(BadText, marked)

    def test_round_two_wins(self):
        self.refuses(BadText, "stone(root)@root")
        self.refuses(BadText, "X:stone @X")
        for word in WORDS + ("predicate",):
            self.refuses(BadText, f"@) {word}")
        self.refuses(BadText, "next(loop,stone(@")
        self.refuses(BadText, "rain(X:s@")

    def test_round_three(self):
        for error, marked in (
            (UnknownName, "@stone"), (UnknownName, "@rain"), (UnknownName, "@lit(root)"), (UnknownName, "@node"),
            (UnknownName, "X:@stone"), (UnknownName, "X:@root"), (UnknownName, "X : @rain"),
            (UnknownName, "next(@rain)"), (UnknownName, "next(X:@stone)"), (UnknownName, "@stone(rain)"),
            (WrongCount, "@next"), (WrongCount, "@root(root)"), (WrongCount, "@next(root,root)"),
            (WrongCount, "@join(stone)"), (WrongCount, "next(@join)"), (WrongCount, " @trip(root,root)"),
            (WrongSort, "next(@loop)"), (WrongSort, "next(@E:edge)"), (WrongSort, "next( @arc(root,root))"),
            (WrongSort, "trip(root,@next(leaf),stone)"), (WrongSort, "join(root,@loop)"),
            (WrongSort, "arc(next(@loop),loop)"), (WrongSort, "join(@loop,stone)"),
        ):
            self.refuses(error, marked)

    def test_order_in_round_three(self):
        self.refuses(UnknownName, "next(arc(@stone,loop))")
        self.refuses(WrongSort, "next(arc(@loop,stone))")
        self.refuses(WrongSort, "next(@arc(root,root))")
        self.refuses(WrongCount, "join(@next,loop)")
        self.refuses(UnknownName, "@stone(next,loop)")
        self.refuses(UnknownName, "join(next(@stone),X:stone)")
        self.refuses(UnknownName, "join(next(root), X:@stone)")
        self.refuses(WrongSort, "trip(root,@root,X:stone)")

    def test_two_vocabularies_in_turn(self):
        small = Vocabulary(("edge",), (("root", (), "edge"), ("next", (), "edge")), (("leaf", ()),))
        for _ in range(2):
            self.assertEqual(read_term(GRAPH, "next(root)"), next_of(ROOT))
            self.refuses(WrongCount, "@next(root)", small)
            self.assertEqual(read_term(small, "next"), ("next",))
            self.refuses(UnknownName, "@leaf", small)
            self.assertEqual(read_term(GRAPH, "leaf"), LEAF)
            self.refuses(UnknownName, "X:@node", small)

    def test_beyond_the_bounds(self):
        text = "next(" * 700 + "root" + ")" * 700
        self.assertEqual(term_text(deep_term(700)), text)
        self.assertEqual(term_text(read_term(GRAPH, text)), text)


if __name__ == "__main__":
    unittest.main()
