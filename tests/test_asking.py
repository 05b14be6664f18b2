"""Points 75 and 76: asking whether a claim follows from a book, and direct papers."""

import unittest

from claimworlds.asking import Answer, ask, direct_paper
from claimworlds.books import Book
from claimworlds.booktexts import read_book
from claimworlds.checking import is_refutation, last_line
from claimworlds.choosing import drive_run
from claimworlds.clauseforms import clause_form
from claimworlds.clauses import opposite_literal
from claimworlds.clausetexts import clause_text
from claimworlds.endings import Ending
from claimworlds.errors import NoSelection, NotRefutation, NotSentence, NotUnit, TooLong
from claimworlds.finite import finite_world
from claimworlds.formulatexts import read_sentence
from claimworlds.joining import trimmed_paper
from claimworlds.judging import is_ending
from claimworlds.orders import Order
from claimworlds.ownworlds import OwnWorld
from claimworlds.papers import Paper
from claimworlds.runs import Run

GRAPH = """sort node
function root: node
function next(node): node
predicate edge(node,node)
predicate path(node,node)
predicate rain
axiom a1: all X:node. edge(X,next(X))
axiom a2: all X:node. all Y:node. edge(X,Y) implies path(X,Y)
axiom a3: all X:node. all Y:node. all W:node. path(X,Y) and path(Y,W) implies path(X,W)
axiom a4: rain or not rain"""
GROUP = """sort g
function e: g
function i(g): g
function m(g,g): g
axiom one: all X:g. m(e,X) = X
axiom two: all X:g. m(i(X),X) = e
axiom three: all X:g. all Y:g. all W:g. m(m(X,Y),W) = m(X,m(Y,W))"""


class AskCase(unittest.TestCase):

    def asks(self, verdict, text, claim, **more):
        """Asks, and checks everything that an answer promises."""
        book = read_book(text)
        answer = ask(book, read_sentence(book.vocabulary, claim), **more)
        self.assertIsInstance(answer, Answer)
        self.assertEqual(answer.verdict, verdict)
        self.assertIs(answer.follows, verdict == "follows")
        form = clause_form(book.vocabulary, book.axioms + (("", ("not", read_sentence(book.vocabulary, claim))),))
        self.assertEqual((answer.form.clauses, answer.form.origins), (form.clauses, form.origins))
        self.assertEqual(answer.form.vocabulary.functions, form.vocabulary.functions)
        plain = Order.plain(form.vocabulary)
        self.assertEqual((answer.order.names, answer.order.weights), (plain.names, plain.weights))
        run = Run(form.vocabulary, plain, more.get("selection", "none"), form.clauses)
        drive_run(run, more.get("rounds", 30), beat=more.get("beat", 3))
        self.assertEqual(answer.rounds, run.takes)
        self.check_paper(answer)
        self.check_ending(answer, more.get("selection", "none"))
        return answer

    def check_paper(self, answer):
        if answer.verdict != "follows":
            self.assertIsNone(answer.paper)
            self.assertEqual(answer.used, ())
            return
        self.assertIsInstance(answer.paper, Paper)
        self.assertIs(is_refutation(answer.form.vocabulary, answer.form.clauses, answer.paper), True)
        self.assertEqual(trimmed_paper(answer.paper).steps, answer.paper.steps)
        indexes = [step[1] for step in answer.paper.steps if step[0] == "given"]
        labels = []
        for index, label in enumerate(answer.form.origins):
            if index in indexes and label not in labels:
                labels.append(label)
        self.assertEqual(answer.used, tuple(labels))

    def check_ending(self, answer, selection):
        if answer.verdict != "not":
            self.assertIsNone(answer.ending)
            return
        self.assertIsInstance(answer.ending, Ending)
        self.assertEqual(answer.ending.selection, selection)
        self.assertEqual(answer.ending.order.names, answer.order.names)
        self.assertIs(is_ending(answer.form.vocabulary, answer.form.clauses, answer.ending), True)

    def turns(self, answer):
        made = direct_paper(answer)
        self.assertIsInstance(made, Paper)
        axioms = [clause for clause, label in zip(answer.form.clauses, answer.form.origins) if label != ""]
        units = [clause for clause, label in zip(answer.form.clauses, answer.form.origins) if label == ""]
        line = last_line(answer.form.vocabulary, axioms, made)
        self.assertTrue(set(line) <= {opposite_literal(clause[0]) for clause in units})
        return clause_text(line)


class TestVerdicts(AskCase):

    def test_follows(self):
        answer = self.asks("follows", GRAPH, "path(root,next(next(root)))")
        self.assertEqual(answer.used, ("a1", "a2", "a3", ""))
        self.asks("follows", GRAPH, "all X:node. path(X,next(X))")
        self.asks("follows", GRAPH, "some X:node. edge(root,X)")
        self.asks("follows", GROUP, "all X:g. m(X,e) = X")
        self.asks("follows", GROUP, "all X:g. i(i(X)) = X")

    def test_not(self):
        self.asks("not", "predicate r\npredicate q\naxiom a: q implies r\naxiom b: q or r", "q")
        self.asks("not", GRAPH.replace("path(X,W)", "edge(X,X)"), "rain", selection="first", rounds=60)
        answer = self.asks("not", "sort s\nfunction a: s\nfunction f(s): s\naxiom b: all X:s. f(f(X)) = X", "all X:s. f(X) = X")
        own = OwnWorld(answer.form.vocabulary, answer.ending, 4)
        world = finite_world(own)
        self.assertTrue(all(world.break_of(clause) is None for clause in answer.form.clauses))
        self.assertFalse(world.holds(("all", "X", "s", ("same", ("f", ("X", "s")), ("X", "s"))), {}))

    def test_open(self):
        self.asks("open", GROUP, "all X:g. all Y:g. m(X,Y) = m(Y,X)", rounds=5)

    def test_stuck(self):
        wide = " or ".join(f"p{k}(X)" for k in range(5))
        other = " or ".join(f"q{k}(X)" for k in range(5))
        lines = ["sort s", "function a: s"] + [f"predicate {name}{k}(s)" for name in "pq" for k in range(5)]
        lines += ["predicate r(s)", f"axiom one: all X:s. r(X) implies {wide}", f"axiom two: all X:s. r(X) or {other}"]
        text = "\n".join(lines)
        answer = self.asks("open", text, "p0(a)", rounds=200)
        self.assertLess(answer.rounds, 200)

    def test_what_is_too_large(self):
        """Conclusions of 9 literals, and with a side of 41 symbols; one less is taken."""
        for count, verdict in ((4, "not"), (5, "open")):
            names = [f"p{k}" for k in range(4)] + [f"q{k}" for k in range(count)]
            lines = ["predicate t"] + [f"predicate {name}" for name in names] + ["predicate r"]
            lines += ["axiom one: r implies " + " or ".join(names[:4]), "axiom two: not r implies " + " or ".join(names[4:])]
            self.asks(verdict, "\n".join(lines), "t", rounds=100)
        for count, verdict in ((18, "not"), (19, "open")):
            text = "sort s\nfunction a: s\nfunction f(s): s\npredicate q(s)\npredicate p(s)\npredicate r"
            text += f"\naxiom one: p({'f(' * count}a{')' * count})"
            text += f"\naxiom two: all X:s. not p(X) or q({'f(' * 19}f(X){')' * 19})"
            self.asks(verdict, text, "r", selection="first", rounds=100)

    def test_no_rounds(self):
        answer = self.asks("open", GRAPH, "path(root,next(root))", rounds=0)
        self.assertEqual(answer.rounds, 0)
        answer = self.asks("follows", GRAPH, "true", rounds=0)
        self.assertEqual((answer.rounds, answer.used), (0, ("",)))
        answer = self.asks("not", "", "false", rounds=0)
        self.assertEqual((answer.rounds, answer.form.clauses, answer.ending.clauses), (0, (), ()))

    def test_each_selection_and_beat(self):
        for selection in ("none", "first", "heaviest"):
            for beat in (1, 2, 9):
                self.asks("follows", GROUP, "all X:g. m(X,i(X)) = e", selection=selection, beat=beat, rounds=100)
                # Without a selection and with the oldest clauses first it takes too long.
                if (selection, beat) != ("none", 1):
                    claim = "path(root,next(next(next(root))))"
                    self.asks("follows", GRAPH, claim, selection=selection, beat=beat, rounds=100)

    def test_a_book_without_axioms(self):
        text = "sort s\nfunction a: s\npredicate p(s)\npredicate r"
        self.asks("follows", text, "r or not r")
        answer = self.asks("follows", text, "(all X:s. p(X)) implies p(a)")
        self.assertEqual(answer.used, ("",))
        self.asks("not", text, "r")
        self.asks("not", text, "all X:s. p(X)")
        self.asks("not", "", "false")
        self.asks("follows", "", "true")

    def test_a_claim_that_is_an_axiom(self):
        answer = self.asks("follows", GRAPH, "all X:node. edge(X,next(X))")
        self.assertEqual(answer.used, ("a1", ""))
        self.asks("follows", "predicate r\naxiom a: r", "r")

    def test_a_claim_whose_denial_is_an_axiom(self):
        """The clause of the denied claim stands earlier, so it has the label of the axiom."""
        answer = self.asks("not", "predicate r\naxiom a: not r", "r")
        self.assertEqual(answer.form.origins, ("a",))
        answer = self.asks("follows", "predicate r\npredicate s1\naxiom a: not r\naxiom b: r", "r")
        self.assertEqual((answer.form.origins, answer.used), (("a", "b"), ("a", "b")))

    def test_used_in_the_order_of_the_origins(self):
        text = "predicate r\npredicate p\npredicate q\naxiom z1: p implies r\naxiom b: q implies p\naxiom c: r or not p\naxiom a: q"
        text = text.replace("z1", "y")
        answer = self.asks("follows", text, "r")
        self.assertEqual(answer.used, ("y", "b", "a", ""))

    def test_equality_and_sorts_without_constants(self):
        text = "sort s\nsort t\nfunction h(s): t\npredicate p(t)\naxiom a: all X:s. p(h(X))"
        self.asks("follows", text, "some X:t. p(X)")
        self.asks("not", text, "all X:t. p(X)")


class TestErrors(AskCase):

    def test_no_selection(self):
        book = read_book(GRAPH)
        for claim in (("true",), None, ("atom", ("zz",))):
            with self.assertRaises(NoSelection) as caught:
                ask(book, claim, selection="last")
            self.assertEqual(caught.exception.selection, "last")

    def test_no_sentence(self):
        book = read_book(GRAPH)
        for claim in (
            None, 3, "rain", (), ("rain",), ("atom", ("snow",)), ("atom", ("path", ("X", "node"), ("root",))), ("not",), ("all", "X", "node", None),
            ("same", ("root",), ("X", "node")), (("true",),),
        ):
            with self.assertRaises(NotSentence) as caught:
                ask(book, claim)
            self.assertEqual(caught.exception.name, "")

    def test_too_long(self):
        names = [f"p{k}" for k in range(10)]
        book = Book(read_book("\n".join(f"predicate {name}" for name in names)).vocabulary, ())
        claim = ("atom", ("p0",))
        for name in names[1:]:
            claim = ("iff", claim, ("atom", (name,)))
        self.assertRaises(TooLong, ask, book, claim)
        self.assertRaises(NoSelection, ask, book, claim, selection="")
        self.assertRaises(NotSentence, ask, book, ("and", claim, None))


class TestDirect(AskCase):

    def test_one_unit(self):
        answer = self.asks("follows", GRAPH, "path(root,next(root))")
        self.assertEqual(self.turns(answer), "path(root,next(root))")
        answer = self.asks("follows", GRAPH, "all X:node. path(X,next(X))")
        self.assertEqual(self.turns(answer), "path(zw0,next(zw0))")
        answer = self.asks("follows", GROUP, "all X:g. m(X,e) = X")
        self.assertEqual(self.turns(answer), "zw0 = m(zw0,e)")

    def test_several_units(self):
        answer = self.asks("follows", GRAPH, "path(root,root) or path(root,next(root))")
        self.assertEqual(self.turns(answer), "path(root,next(root))")
        answer = self.asks("follows", GRAPH, "edge(root,root) implies path(root,root)")
        self.assertEqual(self.turns(answer), "not edge(root,root) | path(root,root)")

    def test_no_unit_is_needed(self):
        answer = self.asks("follows", "predicate r\npredicate q\naxiom a: r\naxiom b: not r", "q")
        self.assertEqual(self.turns(answer), "false")
        answer = self.asks("follows", "predicate r\naxiom a: not r\naxiom b: r", "r")
        self.assertEqual(self.turns(answer), "false")

    def test_no_refutation(self):
        self.assertRaises(NotRefutation, direct_paper, self.asks("not", "predicate r", "r"))
        self.assertRaises(NotRefutation, direct_paper, self.asks("open", GROUP, "all X:g. all Y:g. m(X,Y) = m(Y,X)", rounds=3))

    def test_no_unit(self):
        for text, claim, index in (
            (GRAPH, "some X:node. edge(root,X)", 3), ("predicate r\npredicate q\naxiom a: r", "r and (q or not q)", 1),
            ("predicate r\npredicate q\naxiom a: r\naxiom b: q", "r and q", 2), ("sort s\nfunction a: s\npredicate p(s)", "true", 0),
            ("sort s\nfunction a: s\npredicate p(s)\npredicate q\naxiom b: all X:s. p(X)", "q or some X:s. p(X)", 2),
        ):
            answer = self.asks("follows", text, claim)
            with self.assertRaises(NotUnit, msg=claim) as caught:
                direct_paper(answer=answer)
            self.assertEqual(caught.exception.index, index, claim)


if __name__ == "__main__":
    unittest.main()
