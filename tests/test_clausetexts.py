"""Points 15 and 18: texts of clauses, and the three rounds of reading them."""

import unittest

from claimworlds.clauses import is_clause
from claimworlds.clausetexts import clause_text, read_clause
from claimworlds.errors import BadText, UnknownName, WrongCount, WrongSort
from samples import E, GRAPH, LEAF, LOOP, ROOT, TRUTH, X, Y, clause, dark, join, lit, next_of, other, past, same

RAIN = (True, ("rain",), TRUTH)
DRY = (False, ("rain",), TRUTH)
SURE = (True, TRUTH, TRUTH)
NEVER = (False, TRUTH, TRUTH)


class TestClauseTexts(unittest.TestCase):

    def agrees(self, made, text):
        self.assertEqual(clause_text(made), text)
        self.assertEqual(read_clause(GRAPH, text), made)
        self.assertIs(is_clause(GRAPH, made), True)

    def test_the_empty_clause(self):
        self.agrees((), "false")
        self.assertEqual(read_clause(GRAPH, "\n false  "), ())
        self.assertEqual(clause_text(clause=()), "false")

    def test_the_truth(self):
        self.agrees((SURE,), "true = true")
        self.agrees((NEVER,), "true != true")
        self.agrees((NEVER, SURE), "true != true | true = true")

    def test_atoms(self):
        self.agrees((RAIN,), "rain")
        self.agrees((DRY,), "not rain")
        self.agrees((lit(X),), "lit(X:node)")
        self.agrees((dark(next_of(ROOT)),), "not lit(next(root))")
        self.agrees((past(X, join(ROOT, Y)),), "past(X:node,join(root,Y:node))")

    def test_equations(self):
        self.agrees((same(ROOT, LEAF),), "root = leaf")
        self.agrees((other(ROOT, LEAF),), "root != leaf")
        self.agrees((same(next_of(X), X),), "next(X:node) = X:node")
        self.agrees((other(X, X),), "X:node != X:node")
        self.agrees((same(E, LOOP),), "loop = E:edge")

    def test_several_literals(self):
        self.agrees(
            clause(RAIN, DRY, dark(X), same(ROOT, X), other(LEAF, X), SURE),
            "leaf != X:node | not lit(X:node) | not rain | rain | root = X:node | true = true",
        )
        self.agrees(clause(lit(X), lit(("X", "node")), (True, ("free", ("X", "edge")), TRUTH)), "free(X:edge) | lit(X:node)")

    def test_other_orders_sides_and_repetitions(self):
        wanted = clause(RAIN, other(ROOT, LEAF), lit(X))
        for text in (
            "rain | root != leaf | lit(X:node)", "lit(X:node) | leaf != root | rain", "rain|rain|root!=leaf|leaf!=root|lit(X:node)",
            "lit ( X : node )\n|\nrain | lit(X:node) | root\n!=leaf ",
        ):
            self.assertEqual(read_clause(GRAPH, text), wanted, text)
        self.assertEqual(read_clause(GRAPH, "X:node = next(X:node)"), (same(X, next_of(X)),))
        self.assertEqual(read_clause(GRAPH, "true = true | true = true"), (SURE,))
        self.assertEqual(read_clause(vocabulary=GRAPH, text="not rain | rain"), (DRY, RAIN))

    def test_what_was_read_has_a_text(self):
        for text in ("leaf = root", "rain | not rain | Y:node != X:node", "link(X:node,E:edge) | arc(X:node,root) = X:edge"):
            made = read_clause(GRAPH, text)
            self.assertEqual(read_clause(GRAPH, clause_text(made)), made)
        self.assertEqual(clause_text(read_clause(GRAPH, "rain | leaf = root|not rain")), "not rain | rain | root = leaf")


class TestRounds(unittest.TestCase):

    def refuses(self, error, column, text):
        with self.assertRaises(error) as caught:
            read_clause(GRAPH, text)
        self.assertIs(type(caught.exception), error, text)
        self.assertEqual(caught.exception.column, column, text)

    def test_round_1(self):
        for text, column in (
            ("rain ? rain", 5), ("rain | Rain_x", 11), ("rain | toolongname", 7), ("?", 0), ("rain ! rain", 5), ("rain |\n9x", 7),
            ("ok | lit(X:node) - ", 17), ("LIT(X:node)", 0),
        ):
            self.refuses(BadText, column, text)

    def test_round_2(self):
        for text, column in (
            # The places of `not`, `true` and `false`.
            ("not root = leaf", 9), ("not X:node = leaf", 4), ("not true", 4), ("not true = true", 4), ("not not rain", 4),
            ("not false", 4), ("not", 3), ("not |", 4), ("not (rain)", 4), ("rain | false", 7), ("false | rain", 6), ("false false", 6),
            ("false = false", 6), ("true", 4), ("true | rain", 5), ("rain | true", 11), ("true = rain", 7), ("root = true", 7),
            ("true != X:node", 8), ("lit(root) = true", 12), ("true = ", 7), ("true = false", 7), ("root = false", 7),
            ("true rain", 5), ("lit(true)", 4), ("lit(false)", 4), ("root = not rain", 7),
            # Brackets and signs.
            ("(rain)", 0), ("rain | (rain)", 7), ("rain | ", 7), ("| rain", 0), ("rain || rain", 6), ("rain rain", 5), ("rain()", 5),
            ("lit(root", 8), ("lit(root,)", 9), ("lit(root))", 9), ("lit(,root)", 4), ("rain, rain", 4), ("rain.", 4), ("root = leaf = root", 12),
            ("root = (leaf)", 7), ("root = ", 7), ("= root", 0), ("rain or rain", 5), ("rain and rain", 5), ("all X:node. lit(X)", 0),
            # Variables.
            ("X:node", 6), ("X:node | rain", 7), ("X = root", 2), ("X:node = Y", 10), ("lit(X)", 5), ("lit(X:)", 6), ("X:Y = root", 2),
            ("X:node:node = root", 6), ("lit(X:node(root))", 10), ("X(root) = root", 1), ("predicate", 0), ("X:sort = root", 2),
            # Texts without a literal.
            ("", 0), ("  ", 2), ("\n", 1),
        ):
            self.refuses(BadText, column, text)

    def test_round_3(self):
        for error, text, column in (
            (UnknownName, "snow", 0), (UnknownName, "not snow", 4), (UnknownName, "rain | lit(snow)", 11), (UnknownName, "root", 0),
            (UnknownName, "lit(rain)", 4), (UnknownName, "rain = root", 0), (UnknownName, "root = snow", 7), (UnknownName, "node", 0),
            (UnknownName, "lit(X:snow)", 6), (UnknownName, "X:snow = root", 2), (UnknownName, "root != X:rain", 10),
            (UnknownName, "lit(X:root)", 6),
            (WrongCount, "lit", 0), (WrongCount, "not lit(root,root)", 4), (WrongCount, "rain(root)", 0), (WrongCount, "root = next", 7),
            (WrongCount, "lit(next(root,root))", 4), (WrongCount, "root(root) = leaf", 0),
            (WrongSort, "lit(loop)", 4), (WrongSort, "lit(X:edge)", 4), (WrongSort, "past(root,loop)", 10), (WrongSort, "root = loop", 7),
            (WrongSort, "X:edge != X:node", 10), (WrongSort, "arc(root,leaf) = next(root)", 17), (WrongSort, "rain | lit(next(loop))", 16),
            (WrongSort, "root = leaf | link(loop,loop)", 19),
        ):
            self.refuses(error, column, text)

    def test_the_first_error_from_left_to_right(self):
        for error, text, column in (
            (UnknownName, "snow | lit | root = loop", 0), (WrongCount, "lit | snow", 0), (WrongSort, "root = loop | snow", 7),
            (UnknownName, "lit(snow(X:snow))", 4), (WrongCount, "lit(next(loop,snow))", 4), (UnknownName, "past(loop1,loop)", 5),
            (WrongSort, "past(loop,snow)", 5), (UnknownName, "arc(root,X:snow) = snow", 11), (WrongSort, "next(loop) = snow", 5),
            (UnknownName, "loop = snow", 7), (WrongCount, "root = loop(root)", 7),
        ):
            self.refuses(error, column, text)

    def test_errors_of_several_rounds(self):
        self.refuses(BadText, 14, "snow | rain | ? |")
        self.refuses(BadText, 23, "snow | not not X | Rain_")
        self.refuses(BadText, 11, "snow | not not rain")
        self.refuses(BadText, 12, "lit(loop) | (")
        self.refuses(BadText, 9, "snow | X:")


if __name__ == "__main__":
    unittest.main()
