"""Point 36: clause forms."""

import itertools
import unittest

from chances import SMALL, Chances
from claimworlds.clauseforms import ClauseForm, clause_form
from claimworlds.clauses import is_clause, is_tautology
from claimworlds.clausetexts import clause_text
from claimworlds.errors import NotSentence, TooLong
from claimworlds.formulatexts import read_sentence
from claimworlds.vocabularies import Vocabulary
from samples import GRAPH, ROOT, X


def atoms(count, name="p"):
    return [("atom", (name, ("c" + str(number),))) for number in range(count)]


def balanced(word, formulas):
    half = len(formulas) // 2
    return formulas[0] if half == 0 else (word, balanced(word, formulas[:half]), balanced(word, formulas[half:]))


class TestClauseForm(unittest.TestCase):

    def form(self, *texts):
        return clause_form(GRAPH, [("s" + str(number), read_sentence(GRAPH, text)) for number, text in enumerate(texts)])

    def texts(self, *texts):
        return [clause_text(clause) for clause in self.form(*texts).clauses]

    def test_nothing(self):
        for passed in ([], ()):
            form = clause_form(vocabulary=GRAPH, sentences=passed)
            self.assertIsInstance(form, ClauseForm)
            self.assertEqual((form.clauses, form.origins, form.witnesses), ((), (), ()))
            self.assertEqual((form.vocabulary.sorts, form.vocabulary.functions), (GRAPH.sorts, GRAPH.functions))

    def test_literals(self):
        self.assertEqual(self.texts("rain"), ["rain"])
        self.assertEqual(self.texts("not lit(root)"), ["not lit(root)"])
        self.assertEqual(self.texts("leaf = root"), ["root = leaf"])
        self.assertEqual(self.texts("leaf != root"), ["root != leaf"])
        self.assertEqual(self.texts("rain or leaf = root or not lit(leaf) or leaf = root"), ["not lit(leaf) | rain | root = leaf"])
        self.assertEqual(self.texts("true"), [])
        self.assertEqual(self.texts("false"), ["false"])
        self.assertEqual(self.form("false").clauses, ((),))

    def test_fields_are_tuples(self):
        form = self.form("all X:node. some Y:node. past(X,Y) and lit(Y)")
        for field in (form.clauses, form.origins, form.witnesses):
            self.assertIsInstance(field, tuple)
        self.assertEqual([clause_text(clause) for clause in form.clauses], ["past(Z0:node,zw0(Z0:node))", "lit(zw0(Z0:node))"])
        self.assertEqual(form.origins, ("s0", "s0"))
        self.assertEqual(form.vocabulary.functions, GRAPH.functions + (("zw0", ("node",), "node"),))
        self.assertEqual((form.vocabulary.sorts, form.vocabulary.predicates), (GRAPH.sorts, GRAPH.predicates))
        z0 = ("Z0", "node")
        y = ("Y", "node")
        self.assertEqual(form.witnesses, (("zw0", (z0,), y, ("and", ("atom", ("past", z0, y)), ("atom", ("lit", y)))),))

    def test_several_sentences(self):
        form = self.form(
            "all X:node. some E:edge. link(X,E)", "all X:node. lit(X) or some Y:node. past(Y,X)", "some X:node. lit(X)",
        )
        self.assertEqual([witness[0] for witness in form.witnesses], ["zw0", "zw1", "zw2"])
        self.assertEqual(form.origins, ("s0", "s1", "s2"))
        self.assertEqual(clause_text(form.clauses[0]), "link(Z0:node,zw0(Z0:node))")
        self.assertEqual(clause_text(form.clauses[1]), "lit(Z0:node) | past(zw1(Z0:node),Z0:node)")
        self.assertEqual(clause_text(form.clauses[2]), "lit(zw2)")
        self.assertEqual(
            form.vocabulary.functions[len(GRAPH.functions):],
            (("zw0", ("node",), "edge"), ("zw1", ("node",), "node"), ("zw2", (), "node")),
        )

    def test_variables_count_on_within_a_sentence(self):
        self.assertEqual(
            self.texts("all X:node. lit(X) and past(X,X)", "all X:node. lit(next(X))"),
            ["lit(Z0:node)", "past(Z1:node,Z1:node)", "lit(next(Z0:node))"],
        )

    def test_guides_of_several_sorts(self):
        form = self.form("all E:edge. all X:node. some F:edge. arc(X,X) = F and link(X,E) and free(F) or link(X,F)")
        rows = form.vocabulary.functions[len(GRAPH.functions):]
        self.assertEqual([row[0] for row in rows], [witness[0] for witness in form.witnesses])
        for row, witness in zip(rows, form.witnesses):
            self.assertEqual(row[1], tuple(guide[1] for guide in witness[1]))
            self.assertEqual(row[2], witness[2][1])

    def test_tautologies_are_left_out(self):
        self.assertEqual(self.texts("rain or not rain"), [])
        self.assertEqual(self.texts("all X:node. X = X or lit(X)"), [])
        self.assertEqual(self.texts("rain iff rain"), [])
        self.assertEqual(self.texts("(rain or not rain or lit(root)) and lit(leaf)"), ["lit(leaf)"])
        self.assertEqual(self.texts("root = leaf or leaf != root"), [])
        self.assertEqual(self.texts("root != root"), ["root != root"])

    def test_clauses_that_stand_earlier_are_left_out(self):
        form = self.form("rain", "lit(root) and rain", "rain and root = leaf", "leaf = root or false", "rain")
        self.assertEqual([clause_text(clause) for clause in form.clauses], ["rain", "lit(root)", "root = leaf"])
        self.assertEqual(form.origins, ("s0", "s1", "s2"))
        self.assertEqual(self.texts("all X:node. lit(X)", "all Y:node. lit(Y)"), ["lit(Z0:node)"])
        self.assertEqual(self.texts("false and rain", "false"), ["false"])

    def test_labels(self):
        rain = ("atom", ("rain",))
        form = clause_form(GRAPH, (("", rain), ("A label!\n", ("not", rain)), ("", ("atom", ("lit", ROOT)))))
        self.assertEqual(form.origins, ("", "A label!\n", ""))

    def test_lists_that_are_changed_afterwards(self):
        passed = [("a", ("atom", ("rain",)))]
        form = clause_form(GRAPH, passed)
        passed.append(("b", ("false",)))
        self.assertEqual(form.origins, ("a",))

    def test_not_sentence(self):
        good = ("atom", ("rain",))
        row = atoms(23)
        vocabulary = Vocabulary(("s",), tuple((atom[1][1][0], (), "s") for atom in row), (("p", ("s",)), ("rain", ())))
        long = ("or", balanced("and", row), balanced("and", row))
        with self.assertRaises(TooLong):
            clause_form(vocabulary, [("a", long)])
        for bad in (None, 3, "rain", (), ("rain",), ("atom", ("lit", X)), ("all", "X", "node", ("some", "X", "edge", good)), ("not",)):
            with self.assertRaises(NotSentence) as caught:
                clause_form(vocabulary, [("a", long), ("b", good), ("c", bad), ("d", None)])
            self.assertEqual(caught.exception.name, "c")
        with self.assertRaises(NotSentence) as caught:
            clause_form(GRAPH, (("", ()), ("x", ())))
        self.assertEqual(caught.exception.name, "")

    def test_too_long(self):
        row = atoms(23)
        functions = tuple((atom[1][1][0], (), "s") for atom in row)
        vocabulary = Vocabulary(("s",), functions, (("p", ("s",)), ("q", ("s",))))
        some = [("some", "X", "s", ("and", ("atom", ("p", ("X", "s"))), atom)) for atom in atoms(23, "q")]
        for formula in (
            ("or", balanced("and", row), balanced("and", row)), ("not", ("and", balanced("or", row), balanced("or", row))),
            ("all", "X", "s", ("or", balanced("and", row), balanced("and", row))),
            # Its wide rows are too many only when the quantifiers are gone.
            ("or", balanced("and", some[:12]), balanced("and", some[12:])),
        ):
            with self.assertRaises(TooLong):
                clause_form(vocabulary, [("a", formula)])
        self.assertEqual(len(clause_form(vocabulary, [("a", balanced("and", row))]).clauses), 23)
        self.assertEqual(len(clause_form(vocabulary, [("a", ("or", balanced("and", some[:4]), balanced("and", some[4:9])))]).clauses), 80)

    def test_13_sentences(self):
        form = clause_form(GRAPH, [(str(number), ("some", "X", "node", ("atom", ("lit", X)))) for number in range(13)])
        self.assertEqual(form.origins, tuple(str(number) for number in range(13)))
        self.assertEqual(clause_text(form.clauses[12]), "lit(zw12)")


class TestSortsWithoutGroundTerms(unittest.TestCase):

    def constants(self, vocabulary, *sentences):
        form = clause_form(vocabulary, [("a", sentence) for sentence in sentences])
        made = [row for row in form.vocabulary.functions if row[0].startswith("zd")]
        self.assertEqual(form.vocabulary.functions[len(form.vocabulary.functions) - len(made):], tuple(made))
        witnesses = form.witnesses[len(form.witnesses) - len(made):]
        self.assertEqual(witnesses, tuple((name, (), ("X", sort), ("true",)) for name, _, sort in made))
        self.assertTrue(all(row[1] == () for row in made))
        self.assertEqual([row[0] for row in made], ["zd" + str(number) for number in range(len(made))])
        return [row[2] for row in made]

    def test_in_the_order_of_the_sorts(self):
        self.assertEqual(self.constants(Vocabulary(("s", "t", "u"), (), ())), ["s", "t", "u"])
        self.assertEqual(self.constants(Vocabulary(("s", "t", "u"), (("c", (), "t"),), ())), ["s", "u"])
        self.assertEqual(self.constants(Vocabulary((), (), (("r", ()),))), [])
        self.assertEqual(self.constants(GRAPH), [])

    def test_sorts_that_are_reached_by_functions(self):
        functions = (("f", ("s",), "t"), ("g", ("t", "u"), "v"), ("h", ("v",), "v"))
        self.assertEqual(self.constants(Vocabulary(("s", "t", "u", "v"), functions, ())), ["s", "u"])
        self.assertEqual(self.constants(Vocabulary(("v", "u", "t", "s"), functions, ())), ["v", "u", "t", "s"])
        self.assertEqual(self.constants(Vocabulary(("t", "s", "v", "u"), functions, ())), ["t", "s", "v", "u"])
        self.assertEqual(self.constants(Vocabulary(("u", "s", "v", "t"), functions, ())), ["u", "s"])
        self.assertEqual(self.constants(Vocabulary(("s",), (("f", ("s",), "s"),), ())), ["s"])
        self.assertEqual(self.constants(Vocabulary(("s", "t"), (("f", ("t",), "s"), ("g", ("s",), "t")), ())), ["s"])

    def test_witnesses_count_as_functions(self):
        vocabulary = Vocabulary(("s", "t"), (), (("p", ("s",)), ("q", ("s", "t"))))
        some = ("some", "X", "s", ("atom", ("p", ("X", "s"))))
        self.assertEqual(self.constants(vocabulary, some), ["t"])
        guided = ("all", "X", "s", ("some", "Y", "t", ("atom", ("q", ("X", "s"), ("Y", "t")))))
        self.assertEqual(self.constants(vocabulary, guided), ["s"])
        self.assertEqual(self.constants(vocabulary, guided, some), [])
        form = clause_form(vocabulary, [("a", guided)])
        self.assertEqual([row[0] for row in form.vocabulary.functions], ["zw0", "zd0"])
        self.assertEqual([witness[0] for witness in form.witnesses], ["zw0", "zd0"])

    def test_chances(self):
        chances = Chances(36)
        for _ in range(150):
            sentences = [("s" + str(number), chances.sentence(3)) for number in range(3)]
            try:
                form = clause_form(SMALL, sentences)
            except TooLong:
                continue
            self.assertEqual(len(form.clauses), len(form.origins))
            for clause in form.clauses:
                self.assertIs(is_clause(form.vocabulary, clause), True)
                self.assertIs(is_tautology(clause), False)
            for one, two in itertools.combinations(form.clauses, 2):
                self.assertNotEqual(one, two)
            self.assertEqual(list(form.origins), sorted(form.origins))


if __name__ == "__main__":
    unittest.main()
