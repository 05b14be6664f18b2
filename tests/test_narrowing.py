"""Points 33 and 34: rows of pieces, and quantifiers moved inwards."""

import unittest

from chances import SMALL, Chances
from claimworlds.errors import TooLong
from claimworlds.formulas import is_sentence
from claimworlds.inwards import inward_formula
from claimworlds.narrowing import deep_rows, narrowed_formula, wide_rows
from samples import LEAF, ROOT, X, Y

A, B, C, D = [("atom", (name,)) for name in "abcd"]
P_X = ("atom", ("p", X))
Q_X = ("atom", ("q", X))
P_Y = ("atom", ("p", Y))
PAST = ("atom", ("past", X, Y))
HOLD = ("true",)
FAIL = ("false",)


def no(formula):
    return ("not", formula)


def every(formula, name="X", sort="node"):
    return ("all", name, sort, formula)


def some(formula, name="X", sort="node"):
    return ("some", name, sort, formula)


def joined(word, formulas):
    """Formulas with a word between them, joined from left to right."""
    whole = formulas[0]
    for formula in formulas[1:]:
        whole = (word, whole, formula)
    return whole


def balanced(word, formulas):
    """Formulas with a word between them, joined so that they are not nested deep."""
    half = len(formulas) // 2
    return formulas[0] if half == 0 else (word, balanced(word, formulas[:half]), balanced(word, formulas[half:]))


def atoms(count, start=0):
    return [("atom", ("p", ("c" + str(number),))) for number in range(start, start + count)]


def exchanged(formula):
    """The formula with `and` and `or`, `all` and `some`, and true and false exchanged."""
    words = {"and": "or", "or": "and", "all": "some", "some": "all", "true": "false", "false": "true"}
    kind = formula[0]
    if kind in ("atom", "same", "not"):
        return formula
    return (words[kind],) + tuple(exchanged(part) if isinstance(part, tuple) else part for part in formula[1:])


class TestRows(unittest.TestCase):

    def has(self, formula, rows):
        """The wide rows of a formula, and in the same way the deep rows of the one with the words exchanged."""
        self.assertEqual(wide_rows(formula), rows)
        self.assertEqual(deep_rows(exchanged(formula)), tuple(tuple(exchanged(piece) for piece in row) for row in rows))

    def test_pieces(self):
        for piece in (A, no(A), ("same", ROOT, X), no(("same", ROOT, LEAF)), every(("and", P_X, Q_X)), some(("or", P_X, A))):
            self.assertEqual(wide_rows(piece), ((piece,),))
            self.assertEqual(deep_rows(piece), ((piece,),))
        self.assertEqual(wide_rows(formula=A), ((A,),))
        self.assertEqual(deep_rows(formula=A), ((A,),))

    def test_true_and_false(self):
        self.has(HOLD, ())
        self.has(FAIL, ((),))

    def test_and_and_or(self):
        self.has(("and", A, B), ((A,), (B,)))
        self.has(("or", A, B), ((A, B),))
        self.has(("or", ("and", A, B), ("and", C, D)), ((A, C), (A, D), (B, C), (B, D)))
        self.has(("and", ("or", B, A), ("and", C, ("or", D, no(A)))), ((B, A), (C,), (D, no(A))))
        self.has(("or", ("or", C, ("and", A, B)), D), ((C, A, D), (C, B, D)))
        self.has(("or", every(("and", A, P_X)), ("and", no(A), A)), ((every(("and", A, P_X)), no(A)), (every(("and", A, P_X)), A)))

    def test_pieces_that_stand_twice_in_a_row(self):
        self.has(("or", A, A), ((A,),))
        self.has(("or", ("or", A, B), ("or", B, A)), ((A, B),))
        self.has(("or", ("or", C, B), ("or", A, ("or", B, D))), ((C, B, A, D),))
        self.has(("or", every(P_X), every(P_X)), ((every(P_X),),))
        self.has(("or", every(P_X), every(P_X, "Y")), ((every(P_X), every(P_X, "Y")),))
        self.has(("or", A, no(A)), ((A, no(A)),))
        self.has(("or", ("same", ROOT, LEAF), ("same", LEAF, ROOT)), ((("same", ROOT, LEAF), ("same", LEAF, ROOT)),))
        self.has(("or", ("atom", ("p", ("X", "node"))), ("atom", ("p", ("X", "edge")))),
                 ((("atom", ("p", ("X", "node"))), ("atom", ("p", ("X", "edge")))),))

    def test_rows_with_the_same_pieces(self):
        self.has(("and", A, A), ((A,),))
        self.has(("and", ("or", A, B), ("or", B, A)), ((A, B),))
        self.has(("and", ("or", B, A), ("or", A, B)), ((B, A),))
        self.has(("or", ("and", A, B), ("and", A, B)), ((A,), (A, B), (B,)))
        self.has(("or", ("and", A, B), ("and", B, A)), ((A, B), (A,), (B,)))
        self.has(("and", ("or", A, ("or", B, C)), ("and", ("or", A, B), ("or", C, ("or", B, A)))), ((A, B, C), (A, B)))
        self.has(("or", ("and", A, ("or", A, B)), A), ((A,), (A, B)))

    def test_500_rows(self):
        two, fifty, ten = balanced("and", atoms(2, 900)), balanced("and", atoms(50)), balanced("and", atoms(10, 100))
        five = balanced("and", atoms(5, 200))
        self.assertEqual(len(wide_rows(("or", ten, fifty))), 500)
        self.assertEqual(len(wide_rows(("or", ("or", two, five), fifty))), 500)
        self.assertEqual(len(wide_rows(balanced("and", atoms(500)))), 500)
        self.assertEqual(len(wide_rows(("and", ("or", ten, balanced("and", atoms(40))), balanced("and", atoms(100, 300))))), 500)
        for formula in (("or", ten, fifty), balanced("and", atoms(500))):
            self.assertEqual(len(deep_rows(exchanged(formula))), 500)
        self.assertEqual(len(deep_rows(("or", ten, fifty))), 2)

    def test_more_than_500_rows(self):
        three, many = balanced("and", atoms(3, 900)), balanced("and", atoms(167))
        twice = ("or", balanced("and", atoms(23)), balanced("and", atoms(23)))
        for formula in (
            ("or", three, many), balanced("and", atoms(501)), ("and", ("or", three, many), A),
            # Before rows are left out there are 529, 501 and 600, and at inner places more than in the end.
            twice, ("and", balanced("and", atoms(500)), atoms(1)[0]), ("and", balanced("and", atoms(300)), balanced("and", atoms(300))),
            ("or", FAIL, ("or", many, three)), ("or", ("and", many, ("or", three, many)), HOLD),
        ):
            self.assertRaises(TooLong, wide_rows, formula)
            self.assertRaises(TooLong, deep_rows, exchanged(formula))
        self.assertEqual(wide_rows(("and", HOLD, A)), ((A,),))

    def test_long_rows(self):
        pieces = atoms(3000)
        self.assertEqual(wide_rows(joined("or", pieces)), (tuple(pieces),))
        self.assertEqual(deep_rows(balanced("and", pieces)), (tuple(pieces),))
        deep = every(joined("or", pieces))
        again = every(joined("or", atoms(3000)))
        self.assertEqual([len(row) for row in wide_rows(("or", deep, again))], [1])
        self.assertEqual([len(row) for row in deep_rows(("and", deep, ("and", again, A)))], [2])


class TestNarrowedFormula(unittest.TestCase):

    def becomes(self, formula, wanted):
        self.assertEqual(narrowed_formula(formula), wanted)
        self.assertEqual(narrowed_formula(exchanged(formula)), exchanged(wanted))

    def test_what_stays(self):
        for formula in (A, no(A), ("same", ROOT, X), no(("same", ROOT, X)), ("and", A, ("or", A, B)), ("or", A, A)):
            self.becomes(formula, formula)
        self.becomes(HOLD, HOLD)
        self.becomes(FAIL, FAIL)
        self.becomes(every(P_X), every(P_X))
        self.becomes(every(no(("same", X, ROOT))), every(no(("same", X, ROOT))))
        self.assertEqual(narrowed_formula(formula=A), A)

    def test_pieces_with_and_without_the_variable(self):
        self.becomes(every(A), A)
        self.becomes(every(("or", P_X, A)), ("or", A, every(P_X)))
        self.becomes(every(("or", A, P_X)), ("or", A, every(P_X)))
        self.becomes(every(("or", ("or", P_X, A), ("or", Q_X, B))), ("or", ("or", A, B), every(("or", P_X, Q_X))))
        self.becomes(every(joined("or", [A, B, C])), joined("or", [A, B, C]))
        self.becomes(every(("or", P_X, ("or", Q_X, no(P_X)))), every(joined("or", [P_X, Q_X, no(P_X)])))
        self.becomes(every(("or", A, ("or", B, ("or", C, P_X)))), ("or", joined("or", [A, B, C]), every(P_X)))

    def test_several_rows(self):
        self.becomes(every(("and", P_X, Q_X)), ("and", every(P_X), every(Q_X)))
        self.becomes(every(("and", A, P_X)), ("and", A, every(P_X)))
        self.becomes(every(joined("and", [P_X, A, Q_X])), joined("and", [every(P_X), A, every(Q_X)]))
        self.becomes(every(("and", P_X, P_X)), every(P_X))
        self.becomes(every(("and", A, A)), A)
        self.becomes(
            every(("or", P_X, ("and", A, Q_X))), ("and", ("or", A, every(P_X)), every(("or", P_X, Q_X))),
        )

    def test_some(self):
        self.assertEqual(narrowed_formula(some(("and", P_X, A))), ("and", A, some(P_X)))
        self.assertEqual(narrowed_formula(some(("or", P_X, A))), ("or", some(P_X), A))
        self.assertEqual(
            narrowed_formula(some(("and", P_X, ("or", A, Q_X)))), ("or", ("and", A, some(P_X)), some(("and", P_X, Q_X))),
        )

    def test_quantifiers_in_one_another(self):
        self.becomes(every(every(PAST, "Y")), every(every(PAST, "Y")))
        self.becomes(every(some(PAST, "Y")), every(some(PAST, "Y")))
        self.becomes(every(some(("and", P_X, P_Y), "Y")), ("and", every(P_X), some(P_Y, "Y")))
        self.becomes(every(some(("or", P_X, P_Y), "Y")), ("or", some(P_Y, "Y"), every(P_X)))
        self.becomes(every(every(("or", PAST, P_X), "Y")), every(("or", P_X, every(PAST, "Y"))))
        self.becomes(every(every(P_X, "Y")), every(P_X))
        self.becomes(every(every(P_Y, "Y")), every(P_Y, "Y"))
        self.becomes(
            every(("or", A, some(("and", PAST, ("and", P_X, B)), "Y"))),
            ("and", ("and", ("or", A, every(P_X)), ("or", A, B)), ("or", A, every(some(PAST, "Y")))),
        )

    def test_a_variable_of_another_sort(self):
        edge = ("atom", ("free", ("X", "edge")))
        self.becomes(every(("or", edge, P_X)), ("or", edge, every(P_X)))
        self.becomes(every(("or", edge, P_X), "X", "edge"), ("or", P_X, every(edge, "X", "edge")))

    def test_a_name_bound_in_two_places(self):
        self.becomes(("and", every(("or", A, P_X)), every(Q_X)), ("and", ("or", A, every(P_X)), every(Q_X)))
        self.becomes(every(("or", some(P_Y, "Y"), ("or", P_X, some(Q_X)))), ("or", ("or", some(P_Y, "Y"), some(Q_X)), every(P_X)))
        self.becomes(("or", every(P_X), every(P_X, "X", "edge")), ("or", every(P_X), P_X))

    def test_true_and_false_within(self):
        self.becomes(every(HOLD), HOLD)
        self.becomes(every(FAIL), FAIL)
        self.becomes(("and", every(HOLD), A), A)
        self.becomes(("or", every(HOLD), A), HOLD)

    def test_too_long(self):
        rows = balanced("and", [("or", atom, ("atom", ("q", X, atom[1][1]))) for atom in atoms(23)])
        for word in ("and", "or"):
            self.assertEqual(narrowed_formula((word, rows, rows)), (word, rows, rows))
        self.assertRaises(TooLong, narrowed_formula, every(("or", rows, rows)))
        self.assertRaises(TooLong, narrowed_formula, some(exchanged(("or", rows, rows))))
        self.assertRaises(TooLong, narrowed_formula, ("or", A, some(every(("or", rows, rows), "Y"))))
        self.assertEqual(narrowed_formula(every(rows))[0], "and")

    def test_long_formulas(self):
        pieces = [("atom", ("q", X, atom[1][1])) for atom in atoms(2000)]
        wide = joined("or", pieces)
        self.assertEqual(wide_rows(narrowed_formula(every(wide))[3]), (tuple(pieces),))
        self.assertEqual(len(wide_rows(narrowed_formula(every(("or", wide, joined("or", atoms(2000))))))[0]), 2001)

    def test_chances(self):
        chances = Chances(34)
        for _ in range(400):
            sentence = inward_formula(chances.sentence(4))
            made = narrowed_formula(sentence)
            self.assertIs(is_sentence(SMALL, made), True)
            world = chances.world(2)
            self.assertIs(world.holds(made, {}), world.holds(sentence, {}))


if __name__ == "__main__":
    unittest.main()
