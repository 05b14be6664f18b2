"""Point 32: inward formulas."""

import unittest

from chances import Chances
from claimworlds.formulas import inner_formulas, subformulas
from claimworlds.inwards import inward_formula
from samples import ROOT, LEAF, X

P = ("atom", ("rain",))
Q = ("atom", ("lit", ROOT))
R = ("same", ROOT, LEAF)
S = ("atom", ("lit", LEAF))
LIT_X = ("atom", ("lit", X))
HOLD = ("true",)
FAIL = ("false",)


def no(formula):
    return ("not", formula)


def both(one, two):
    return ("and", one, two)


def either(one, two):
    return ("or", one, two)


class TestInwardFormula(unittest.TestCase):

    def becomes(self, formula, held, denied):
        self.assertEqual(inward_formula(formula), held)
        self.assertEqual(inward_formula(no(formula)), denied)
        self.assertEqual(inward_formula(no(no(formula))), held)

    def test_each_row_of_the_table(self):
        self.becomes(HOLD, HOLD, FAIL)
        self.becomes(FAIL, FAIL, HOLD)
        self.becomes(P, P, no(P))
        self.becomes(R, R, no(R))
        self.becomes(no(P), no(P), P)
        self.becomes(no(R), no(R), R)
        self.becomes(both(P, Q), both(P, Q), either(no(P), no(Q)))
        self.becomes(either(P, Q), either(P, Q), both(no(P), no(Q)))
        self.becomes(("implies", P, Q), either(no(P), Q), both(P, no(Q)))
        self.becomes(
            ("iff", P, Q), both(either(no(P), Q), either(P, no(Q))), both(either(P, Q), either(no(P), no(Q))),
        )
        self.becomes(("all", "X", "node", LIT_X), ("all", "X", "node", LIT_X), ("some", "X", "node", no(LIT_X)))
        self.becomes(("some", "X", "node", LIT_X), ("some", "X", "node", LIT_X), ("all", "X", "node", no(LIT_X)))
        self.assertEqual(inward_formula(formula=P), P)

    def test_rows_within_rows(self):
        self.becomes(("implies", both(P, Q), R), either(either(no(P), no(Q)), R), both(both(P, Q), no(R)))
        self.becomes(no(("implies", P, no(Q))), both(P, Q), either(no(P), no(Q)))
        self.becomes(
            ("all", "X", "node", ("implies", LIT_X, ("some", "Y", "node", P))),
            ("all", "X", "node", either(no(LIT_X), ("some", "Y", "node", P))),
            ("some", "X", "node", both(LIT_X, ("all", "Y", "node", no(P)))),
        )

    def test_true_and_false_at_each_place(self):
        for formula, wanted in (
            (both(HOLD, P), P), (both(P, HOLD), P), (both(FAIL, P), FAIL), (both(P, FAIL), FAIL), (both(HOLD, HOLD), HOLD),
            (both(HOLD, FAIL), FAIL), (either(HOLD, P), HOLD), (either(P, HOLD), HOLD), (either(FAIL, P), P), (either(P, FAIL), P),
            (either(FAIL, FAIL), FAIL), (("implies", HOLD, P), P), (("implies", P, HOLD), HOLD), (("implies", FAIL, P), HOLD),
            (("implies", P, FAIL), no(P)), (("implies", FAIL, FAIL), HOLD), (("iff", HOLD, P), P), (("iff", P, HOLD), P),
            (("iff", FAIL, P), no(P)), (("iff", P, FAIL), no(P)), (("iff", HOLD, FAIL), FAIL), (("iff", FAIL, FAIL), HOLD),
            (no(both(P, HOLD)), no(P)), (no(either(P, HOLD)), FAIL), (no(("iff", P, FAIL)), P), (no(("implies", HOLD, P)), no(P)),
            (both(either(P, no(HOLD)), Q), both(P, Q)), (either(both(P, FAIL), both(Q, HOLD)), Q),
        ):
            self.assertEqual(inward_formula(formula), wanted, formula)

    def test_quantifiers_whose_formula_becomes_true_or_false(self):
        for word in ("all", "some"):
            self.becomes((word, "X", "node", HOLD), HOLD, FAIL)
            self.becomes((word, "X", "node", either(LIT_X, FAIL)),
                         (word, "X", "node", LIT_X), ("some" if word == "all" else "all", "X", "node", no(LIT_X)))
            self.becomes((word, "X", "node", both(LIT_X, FAIL)), FAIL, HOLD)
            self.becomes(both(P, (word, "X", "node", ("implies", FAIL, LIT_X))), P, no(P))
            self.becomes((word, "X", "node", (word, "Y", "node", no(HOLD))), FAIL, HOLD)

    def test_iff_within_iff(self):
        inner = both(either(no(P), Q), either(P, no(Q)))
        denied = both(either(P, Q), either(no(P), no(Q)))
        self.becomes(
            ("iff", ("iff", P, Q), R), both(either(denied, R), either(inner, no(R))), both(either(inner, R), either(denied, no(R))),
        )
        self.becomes(
            ("iff", R, no(("iff", P, Q))), both(either(no(R), denied), either(R, inner)), both(either(R, denied), either(no(R), inner)),
        )
        self.becomes(("iff", P, P), both(either(no(P), P), either(P, no(P))), both(either(P, P), either(no(P), no(P))))
        self.assertEqual(
            inward_formula(("iff", ("iff", P, Q), ("iff", R, S)))[1],
            either(denied, both(either(no(R), S), either(R, no(S)))),
        )

    def test_large_and_deep_formulas(self):
        many = P
        for _ in range(17):
            many = ("iff", many, Q)
        self.assertEqual(inward_formula(many)[0], "and")
        deep = P
        for _ in range(3000):
            deep = no(("implies", P, deep))
        self.assertEqual(len(subformulas(inward_formula(deep))), 7501)

    def test_chances(self):
        chances = Chances(32)
        for _ in range(400):
            sentence = chances.sentence(4)
            world = chances.world(2)
            made = inward_formula(sentence)
            self.assertIs(world.holds(made, {}), world.holds(sentence, {}))
            for part in subformulas(made):
                self.assertIn(part[0], ("and", "or", "not", "all", "some", "atom", "same", "true", "false"))
                if part[0] == "not":
                    self.assertIn(part[1][0], ("atom", "same"))
                for inner in inner_formulas(part):
                    self.assertNotIn(inner, (HOLD, FAIL))


if __name__ == "__main__":
    unittest.main()
