"""Point 35: witness forms."""

import unittest

from chances import Chances
from claimworlds.formulas import subformulas
from claimworlds.inwards import inward_formula
from claimworlds.narrowing import narrowed_formula
from claimworlds.witnesses import witness_form
from samples import ROOT, X, Y, next_of


def atom(*items):
    return ("atom", items)


def every(formula, name="X", sort="node"):
    return ("all", name, sort, formula)


def some(formula, name="X", sort="node"):
    return ("some", name, sort, formula)


def z(number, sort="node"):
    return ("Z" + str(number), sort)


LIT_X = atom("lit", X)
LIT_Y = atom("lit", Y)
E = ("E", "edge")


class TestWitnessForm(unittest.TestCase):

    def becomes(self, formula, wanted, *witnesses, start=(0, 0)):
        self.assertEqual(witness_form(formula, *start), (wanted, witnesses))

    def test_no_quantifiers(self):
        for formula in (
            ("true",), ("false",), atom("rain"), ("not", atom("lit", ROOT)), ("same", ROOT, next_of(ROOT)),
            ("and", ("or", atom("rain"), ("not", atom("rain"))), atom("lit", ROOT)),
        ):
            self.becomes(formula, formula)
        self.assertEqual(witness_form(formula=("true",), variables=3, witnesses=4), (("true",), ()))

    def test_all(self):
        self.becomes(every(LIT_X), atom("lit", z(0)))
        self.becomes(every(("not", ("same", X, next_of(X)))), ("not", ("same", z(0), next_of(z(0)))))
        self.becomes(every(every(atom("past", Y, X), "Y")), atom("past", z(1), z(0)))
        self.becomes(every(every(atom("link", X, E), "E", "edge")), atom("link", z(0), z(1, "edge")))
        self.becomes(("and", every(LIT_X), every(LIT_X)), ("and", atom("lit", z(0)), atom("lit", z(1))))
        self.becomes(("or", every(LIT_X), ("and", atom("rain"), every(LIT_Y, "Y"))),
                     ("or", atom("lit", z(0)), ("and", atom("rain"), atom("lit", z(1)))))

    def test_some(self):
        self.becomes(some(LIT_X), atom("lit", ("zw0",)), ("zw0", (), X, LIT_X))
        self.becomes(
            ("or", some(LIT_X), some(("and", LIT_X, ("same", X, ROOT)))),
            ("or", atom("lit", ("zw0",)), ("and", atom("lit", ("zw1",)), ("same", ("zw1",), ROOT))),
            ("zw0", (), X, LIT_X), ("zw1", (), X, ("and", LIT_X, ("same", X, ROOT))),
        )

    def test_some_within_all(self):
        self.becomes(
            every(some(atom("past", X, Y), "Y")), atom("past", z(0), ("zw0", z(0))), ("zw0", (z(0),), Y, atom("past", z(0), Y)),
        )
        # A variable that does not occur is no guide.
        self.becomes(every(some(LIT_Y, "Y")), atom("lit", ("zw0",)), ("zw0", (), Y, LIT_Y))

    def test_all_within_some(self):
        self.becomes(
            some(every(atom("past", X, Y), "Y")), atom("past", ("zw0",), z(0)), ("zw0", (), X, every(atom("past", X, Y), "Y")),
        )

    def test_guides_of_several_sorts_in_the_order_of_their_first_occurrences(self):
        inner = ("and", atom("link", ("trip", Y, E, X), E), atom("past", ("W", "node"), X))
        formula = every(every(every(some(inner, "W"), "Y"), "E", "edge"))
        x, e, y = z(0), z(1, "edge"), z(2)
        noted = ("and", atom("link", ("trip", y, e, x), e), atom("past", ("W", "node"), x))
        term = ("zw0", y, e, x)
        wanted = ("and", atom("link", ("trip", y, e, x), e), atom("past", term, x))
        self.becomes(formula, wanted, ("zw0", (y, e, x), ("W", "node"), noted))

    def test_witnesses_within_witnesses(self):
        formula = every(some(("and", LIT_Y, some(atom("trip3", X, Y, ("W", "node")), "W")), "Y"))
        outer = ("zw0", z(0))
        self.becomes(
            formula, ("and", atom("lit", outer), atom("trip3", z(0), outer, ("zw1", z(0)))),
            ("zw0", (z(0),), Y, ("and", LIT_Y, some(atom("trip3", z(0), Y, ("W", "node")), "W"))),
            ("zw1", (z(0),), ("W", "node"), atom("trip3", z(0), outer, ("W", "node"))),
        )
        # The guides of the inner witness are those of the formula with the outer one in it.
        formula = every(every(some(some(atom("past", Y, ("W", "node")), "W"), "Y"), "U"))
        self.becomes(
            formula, atom("past", ("zw0",), ("zw1",)), ("zw0", (), Y, some(atom("past", Y, ("W", "node")), "W")),
            ("zw1", (), ("W", "node"), atom("past", ("zw0",), ("W", "node"))),
        )

    def test_some_between_all(self):
        formula = every(some(every(some(atom("past4", X, Y, ("U", "node"), ("W", "node")), "W"), "U"), "Y"))
        y = ("zw0", z(0))
        self.becomes(
            formula, atom("past4", z(0), y, z(1), ("zw1", z(0), z(1))),
            ("zw0", (z(0),), Y, every(some(atom("past4", z(0), Y, ("U", "node"), ("W", "node")), "W"), "U")),
            ("zw1", (z(0), z(1)), ("W", "node"), atom("past4", z(0), y, z(1), ("W", "node"))),
        )

    def test_from_left_to_right(self):
        formula = ("and", ("or", some(every(atom("past", X, Y), "Y")), every(LIT_X)), some(LIT_Y, "Y"))
        self.becomes(
            formula,
            ("and", ("or", atom("past", ("zw0",), z(0)), atom("lit", z(1))), atom("lit", ("zw1",))),
            ("zw0", (), X, every(atom("past", X, Y), "Y")), ("zw1", (), Y, LIT_Y),
        )

    def test_numbers_that_begin_elsewhere(self):
        formula = ("or", every(some(atom("past", X, Y), "Y")), some(every(LIT_Y, "Y")))
        self.becomes(
            formula, ("or", atom("past", z(7), ("zw41", z(7))), atom("lit", z(8))),
            ("zw41", (z(7),), Y, atom("past", z(7), Y)), ("zw42", (), X, every(LIT_Y, "Y")), start=(7, 41),
        )
        self.becomes(every(some(atom("past", X, Y), "Y")), atom("past", z(9000), ("zw9000", z(9000))),
                     ("zw9000", (z(9000),), Y, atom("past", z(9000), Y)), start=(9000, 9000))

    def test_one_name_in_two_places_and_with_two_sorts(self):
        edge = ("X", "edge")
        formula = ("and", every(LIT_X), every(atom("free", edge), "X", "edge"))
        self.becomes(formula, ("and", atom("lit", z(0)), atom("free", z(1, "edge"))))

    def test_long_formulas(self):
        formula = every(LIT_X)
        for _ in range(2000):
            formula = ("and", formula, some(LIT_X))
        made, witnesses = witness_form(formula, 0, 0)
        self.assertEqual([witness[0] for witness in witnesses], ["zw" + str(number) for number in range(2000)])
        self.assertEqual(len(subformulas(made)), 4001)

    def test_chances(self):
        chances = Chances(35)
        for _ in range(300):
            formula = narrowed_formula(inward_formula(chances.sentence(4)))
            made, witnesses = witness_form(formula, 5, 6)
            kinds = [part[0] for part in subformulas(made)]
            self.assertFalse("all" in kinds or "some" in kinds)
            self.assertEqual(len(witnesses), [part[0] for part in subformulas(formula)].count("some"))


if __name__ == "__main__":
    unittest.main()
