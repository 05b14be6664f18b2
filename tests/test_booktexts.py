"""Points 15, 17 and 20: texts of books."""

import unittest

from claimworlds.books import Book
from claimworlds.booktexts import book_text, read_book
from claimworlds.errors import BadLine
from claimworlds.vocabularies import Vocabulary
from samples import GRAPH

LINES = (
    "sort node",
    "function root: node",
    "function next(node): node",
    "predicate edge(node,node)",
    "predicate rain",
    "axiom a1: all X:node. edge(X,next(X))",
)
TEXT = "\n".join(LINES)


class TestBookTexts(unittest.TestCase):

    def refuses(self, number, *lines):
        text = "\n".join(lines)
        with self.assertRaises(BadLine, msg=text) as caught:
            read_book(text)
        self.assertEqual(caught.exception.number, number, text)

    def refuses_line(self, line, above):
        """The line is bad behind that many lines of the document's example; the ones above it are good."""
        self.refuses(above, *LINES[:above], line)
        self.refuses(above, *LINES[:above], line, *LINES[above:])

    def test_the_example_of_the_document(self):
        book = read_book(TEXT)
        self.assertEqual(book.vocabulary.sorts, ("node",))
        self.assertEqual(book.vocabulary.functions, (("root", (), "node"), ("next", ("node",), "node")))
        self.assertEqual(book.vocabulary.predicates, (("edge", ("node", "node")), ("rain", ())))
        x = ("X", "node")
        self.assertEqual(book.axioms, (("a1", ("all", "X", "node", ("atom", ("edge", x, ("next", x))))),))
        self.assertEqual(book_text(book), TEXT)
        self.assertEqual(book_text(book=read_book(text=TEXT)), TEXT)

    def test_every_beginning_of_the_example(self):
        for many in range(1, len(LINES) + 1):
            text = "\n".join(LINES[:many])
            self.assertEqual(book_text(read_book(text)), text)

    def test_the_empty_text(self):
        book = read_book("")
        self.assertEqual((book.vocabulary.sorts, book.vocabulary.functions), ((), ()))
        self.assertEqual((book.vocabulary.predicates, book.axioms, book.names), ((), (), ()))
        self.assertEqual(book_text(book), "")
        self.assertEqual(book_text(Book(Vocabulary((), (), ()), ())), "")

    def test_empty_lines(self):
        self.refuses(0, "", "")
        self.refuses(0, "", "sort node")
        self.refuses(1, "sort node", "")
        self.refuses(1, "sort node", "", "sort edge")
        self.refuses(6, *LINES, "")

    def test_other_books(self):
        text = book_text(Book(GRAPH, [("node", ("true",)), ("a", ("not", ("same", ("root",), ("leaf",))))]))
        self.assertEqual(text.split("\n")[-3:], ["predicate past(node,node)", "axiom node: true", "axiom a: root != leaf"])
        self.assertEqual(book_text(read_book(text)), text)
        self.assertEqual(book_text(read_book("predicate p\naxiom p: p")), "predicate p\naxiom p: p")

    def test_any_text_that_can_be_read_stands_in_an_axiom(self):
        for text, wanted in (
            ("predicate p\naxiom a:   ( p )  ", "predicate p\naxiom a: p"),
            ("predicate p\naxiom a: (p and p)and(not(p))", "predicate p\naxiom a: p and p and not p"),
        ):
            self.assertEqual(book_text(read_book(text)), wanted)

    def test_no_line_at_all(self):
        for line in (
            " ", "sort", "node", "sorts node", "Sort node", " sort node", "sort  node", "sort node ", "sort node,edge",
            "sort: node", "sort node edge", "theorem a: true", "truth", "\tsort node",
        ):
            self.refuses(0, line)
            self.refuses(0, line, "sort other")

    def test_bad_names(self):
        for name in ("", "A", "1", "toolongname", "all", "truth", "a_b", "(", "z", "zebra"):
            self.refuses_line(f"sort {name}", 0)
            self.refuses_line(f"function {name}: node", 1)
            self.refuses_line(f"function {name}(node): node", 2)
            self.refuses_line(f"predicate {name}", 3)
            self.refuses_line(f"predicate {name}(node)", 4)
            self.refuses_line(f"axiom {name}: rain", 5)

    def test_taken_names(self):
        self.refuses_line("sort node", 1)
        self.refuses_line("function node: node", 1)
        self.refuses_line("function root(node): node", 2)
        self.refuses_line("predicate node", 3)
        self.refuses_line("predicate next(node)", 3)
        self.refuses_line("predicate edge", 4)
        self.refuses_line("axiom a1: rain", 6)
        self.assertEqual(read_book(TEXT + "\naxiom rain: rain\naxiom node: rain").names, ("a1", "rain", "node"))

    def test_sorts_that_do_not_stand_above(self):
        self.refuses_line("function root: stone", 1)
        self.refuses_line("function far: root", 2)
        self.refuses_line("function far(stone): node", 2)
        self.refuses_line("function far(node,root): node", 2)
        self.refuses_line("predicate far(stone)", 3)
        self.refuses_line("predicate far(node,stone,node)", 3)
        self.refuses(0, "function root: node", "sort node")
        self.refuses(1, "sort node", "predicate p(edge)", "sort edge")

    def test_forms_that_are_nearly_right(self):
        for line in (
            "function far", "function far:node", "function far : node", "function far:  node", "function far: node ",
            "function far(): node", "function far(node) node", "function far (node): node", "function far( node): node",
            "function far(node, node): node", "function far(node,): node", "function far(,node): node",
            "function far(node: node", "function far(nodes: node", "function far node): node", "function far((node)): node", "function far(node)): node",
            "function far(node): node: node", "function  far: node", "function far(node)(node): node", "function far: ",
            "function far(node):node", "function far: node,node", "function : node", "function (node): node",
        ):
            self.refuses_line(line, 2)
        for line in (
            "predicate", "predicate ", "predicate  far", "predicate far ", "predicate far()", "predicate far(node", "predicate far node",
            "predicate far (node)", "predicate far(nodes", "predicate far(node(", "predicate far(node) ", "predicate far(node, node)", "predicate far(node,)",
            "predicate far: node", "predicate far(node): node", "predicate far(node)(node)", "predicate (node)", "predicate far, near",
        ):
            self.refuses_line(line, 4)
        for line in (
            "axiom", "axiom ", "axiom b", "axiom b:", "axiom b: ", "axiom b:rain", "axiom b : rain", "axiom  b: rain", "axiom : rain",
            "axiom b rain", "axiom b.: rain", "axiom rain", "axiom: rain", "axiom b(node): rain",
        ):
            self.refuses_line(line, 5)

    def test_sentences_that_cannot_be_read(self):
        for text in (
            "rain and", "stone", "edge(root)", "edge(root,loop)", "all X:edge. rain", "all X:node. all X:node. rain",
            "edge(X,root)", "X = X", "rain rain", "true = true", "lit(_)", "next(root)", "rain%",
        ):
            self.refuses_line(f"axiom b: {text}", 5)
        self.refuses(1, "sort node", "axiom a: rain", "predicate rain")

    def test_lines_behind_a_later_kind(self):
        self.refuses(2, "sort node", "function root: node", "sort edge")
        self.refuses(2, "sort node", "predicate rain", "sort edge")
        self.refuses(2, "sort node", "predicate rain", "function root: node")
        self.refuses(1, "axiom a: true", "sort node")
        self.refuses(2, "sort node", "axiom a: true", "function root: node")
        self.refuses(1, "axiom a: true", "predicate rain")
        self.refuses(3, "sort node", "sort edge", "axiom a: true", "predicate rain", "axiom a: true")

    def test_the_first_bad_line_is_told(self):
        self.refuses(1, "sort node", "function Root: node", "sort", "axiom")
        self.refuses(2, "sort node", "function root: node", "function root: edge", "sort edge", "")


if __name__ == "__main__":
    unittest.main()
