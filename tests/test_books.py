"""Points 3, 6, 13 and 19: books."""

import unittest

from claimworlds.books import Book
from claimworlds.errors import BadName, NameTaken, NoAxiom, NotSentence, ReservedName
from claimworlds.formulatexts import read_sentence
from claimworlds.vocabularies import Vocabulary
from samples import GRAPH, LOOP, ROOT, X

RAIN = ("atom", ("rain",))
ALL_LIT = read_sentence(GRAPH, "all X:node. lit(X)")
OPEN = ("atom", ("lit", X))
TWICE = ("all", "X", "node", ("all", "X", "node", RAIN))


class TestBooks(unittest.TestCase):

    def refuses(self, error, name, vocabulary, axioms):
        with self.assertRaises(error) as caught:
            Book(vocabulary, axioms)
        self.assertEqual(caught.exception.name, name)

    def test_fields_and_iteration(self):
        axioms = [("b", RAIN), ("a", ALL_LIT)]
        book = Book(vocabulary=GRAPH, axioms=axioms)
        self.assertEqual(book.vocabulary.functions, GRAPH.functions)
        self.assertEqual(book.axioms, (("b", RAIN), ("a", ALL_LIT)))
        self.assertEqual(book.names, ("b", "a"))
        self.assertEqual(list(book), axioms)
        self.assertEqual([name for name, sentence in book], ["b", "a"])
        self.assertEqual(tuple(book), book.axioms)

    def test_the_empty_book(self):
        book = Book(Vocabulary((), (), ()), ())
        self.assertEqual((book.axioms, book.names, list(book)), ((), (), []))
        self.assertIsNone(book.sentence("a"))

    def test_a_list_changed_afterwards(self):
        axioms = [("a", RAIN)]
        book = Book(GRAPH, axioms)
        axioms.append(("b", RAIN))
        self.assertEqual(book.axioms, (("a", RAIN),))
        self.assertEqual(book.names, ("a",))

    def test_names_of_the_vocabulary_may_name_axioms(self):
        book = Book(GRAPH, [("node", RAIN), ("root", RAIN), ("rain", RAIN)])
        self.assertEqual(book.names, ("node", "root", "rain"))

    def test_reserved_names(self):
        self.refuses(ReservedName, "zs", Vocabulary(("s", "zs"), (), ()), ())
        self.refuses(ReservedName, "zf", Vocabulary(("s",), (("f", (), "s"), ("zf", (), "s")), ()), ())
        self.refuses(ReservedName, "z", Vocabulary(("s",), (), (("p", ()), ("z", ()))), ())
        self.refuses(ReservedName, "zb", Vocabulary(("a", "zb", "za"), (("zc", (), "a"),), (("zd", ()),)), ())
        self.refuses(ReservedName, "zc", Vocabulary(("a",), (("b", (), "a"), ("zc", (), "a")), (("z", ()),)), ())
        self.assertEqual(Book(Vocabulary(("az",), (), (("pz", ()),)), ()).names, ())

    def test_each_error_of_an_axiom(self):
        for name in ("", "A", "toolongname", "axiom", "1", "a b", "a\n"):
            self.refuses(BadName, name, GRAPH, [(name, RAIN)])
        self.refuses(NameTaken, "a", GRAPH, [("a", RAIN), ("b", RAIN), ("a", ALL_LIT)])
        for value in (OPEN, TWICE, ("rain",), ("lit", ROOT), None, 3, "rain", (), ("atom", ("lit", LOOP))):
            self.refuses(NotSentence, "a", GRAPH, [("a", value)])

    def test_order_of_the_errors(self):
        reserved = GRAPH.extended([("zw0", (), "node")])
        self.refuses(ReservedName, "zw0", reserved, [("A", None), ("a", None)])
        self.refuses(BadName, "A", GRAPH, [("A", None), ("a", None)])
        self.refuses(NotSentence, "a", GRAPH, [("a", OPEN), ("A", RAIN)])
        self.refuses(NameTaken, "a", GRAPH, [("a", RAIN), ("a", OPEN), ("A", RAIN)])
        self.refuses(NotSentence, "b", GRAPH, [("a", RAIN), ("b", OPEN), ("a", RAIN)])
        self.refuses(BadName, "B", GRAPH, [("a", RAIN), ("B", OPEN), ("a", RAIN)])

    def test_sentence(self):
        book = Book(GRAPH, [("a", RAIN), ("b", ALL_LIT)])
        self.assertEqual(book.sentence("a"), RAIN)
        self.assertEqual(book.sentence(name="b"), ALL_LIT)
        for name in ("c", "", "rain", "A"):
            self.assertIsNone(book.sentence(name))

    def test_with_axiom(self):
        book = Book(GRAPH, [("b", RAIN)])
        more = book.with_axiom("a", ALL_LIT)
        most = more.with_axiom(name="c", sentence=RAIN)
        self.assertEqual(most.axioms, (("b", RAIN), ("a", ALL_LIT), ("c", RAIN)))
        self.assertEqual(more.names, ("b", "a"))
        self.assertEqual(book.names, ("b",))
        for error, name, sentence in (
            (BadName, "B", OPEN), (NameTaken, "b", OPEN), (NotSentence, "a", OPEN), (NotSentence, "a", None),
        ):
            with self.assertRaises(error) as caught:
                book.with_axiom(name, sentence)
            self.assertEqual(caught.exception.name, name)
        self.assertEqual(book.axioms, (("b", RAIN),))

    def test_without(self):
        book = Book(GRAPH, [("a", RAIN), ("b", ALL_LIT), ("c", RAIN)])
        self.assertEqual(book.without("b").names, ("a", "c"))
        self.assertEqual(book.without(name="a").without("c").axioms, (("b", ALL_LIT),))
        self.assertEqual(book.names, ("a", "b", "c"))
        for name in ("d", "", "rain"):
            with self.assertRaises(NoAxiom) as caught:
                book.without(name)
            self.assertEqual(caught.exception.name, name)
        self.assertEqual(book.without("b").with_axiom("b", RAIN).names, ("a", "c", "b"))


if __name__ == "__main__":
    unittest.main()
