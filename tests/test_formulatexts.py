"""Points 15 and 17: texts of formulas, and the three rounds of reading them."""

import unittest

from claimworlds.errors import BadText, NameBound, UnknownName, WrongCount, WrongSort
from claimworlds.formulas import is_sentence
from claimworlds.formulatexts import formula_text, read_sentence
from claimworlds.vocabularies import Vocabulary
from samples import GRAPH, LEAF, ROOT, X, Y, next_of

OPERATORS = ("iff", "implies", "or", "and")
RAIN = ("atom", ("rain",))
LIT = ("atom", ("lit", ROOT))
LIT_X = ("atom", ("lit", X))
SAME = ("same", ROOT, LEAF)
OTHER = ("not", SAME)
ALL = ("all", "X", "node", LIT_X)


def needs_brackets(outer, inner, on_the_right):
    """What point 17 says of an operand, written down operator by operator."""
    if outer == inner:
        return on_the_right != (outer == "implies")
    return OPERATORS.index(inner) < OPERATORS.index(outer)


class TestFormulaTexts(unittest.TestCase):

    def agrees(self, formula, text):
        self.assertEqual(formula_text(formula), text)
        self.assertEqual(read_sentence(GRAPH, text), formula)

    def test_leaves(self):
        self.agrees(("true",), "true")
        self.agrees(("false",), "false")
        self.agrees(RAIN, "rain")
        self.agrees(("atom", ("past", ROOT, next_of(LEAF))), "past(root,next(leaf))")
        self.agrees(SAME, "root = leaf")
        self.agrees(OTHER, "root != leaf")
        self.assertEqual(formula_text(formula=("atom", ("past", X, Y))), "past(X,Y)")
        self.assertEqual(formula_text(("same", X, ("E", "edge"))), "X = E")
        self.assertEqual(read_sentence(vocabulary=GRAPH, text="rain"), RAIN)

    def test_not(self):
        self.agrees(("not", RAIN), "not rain")
        self.agrees(("not", ("not", RAIN)), "not not rain")
        self.agrees(("not", OTHER), "not root != leaf")
        self.agrees(("not", ("not", OTHER)), "not not root != leaf")
        self.agrees(("not", ("true",)), "not true")
        self.agrees(("not", ALL), "not (all X:node. lit(X))")
        self.agrees(("and", ("not", RAIN), OTHER), "not rain and root != leaf")
        self.agrees(("and", OTHER, ("not", OTHER)), "root != leaf and not root != leaf")
        for word in OPERATORS:
            self.agrees(("not", (word, RAIN, LIT)), f"not (rain {word} lit(root))")
            self.agrees((word, ("not", RAIN), LIT), f"not rain {word} lit(root)")
            self.agrees((word, RAIN, ("not", LIT)), f"rain {word} not lit(root)")
        self.assertEqual(read_sentence(GRAPH, "not root = leaf"), OTHER)
        self.assertEqual(read_sentence(GRAPH, "not (root = leaf)"), OTHER)

    def test_each_operator_on_each_side_of_each(self):
        for outer in OPERATORS:
            for inner in OPERATORS:
                left = (outer, (inner, RAIN, LIT), SAME)
                right = (outer, RAIN, (inner, LIT, SAME))
                if needs_brackets(outer, inner, False):
                    self.agrees(left, f"(rain {inner} lit(root)) {outer} root = leaf")
                else:
                    self.agrees(left, f"rain {inner} lit(root) {outer} root = leaf")
                if needs_brackets(outer, inner, True):
                    self.agrees(right, f"rain {outer} (lit(root) {inner} root = leaf)")
                else:
                    self.agrees(right, f"rain {outer} lit(root) {inner} root = leaf")

    def test_some_texts_in_full(self):
        self.agrees(("implies", ("implies", RAIN, RAIN), ("implies", RAIN, RAIN)), "(rain implies rain) implies rain implies rain")
        self.agrees(("iff", ("iff", RAIN, RAIN), ("iff", RAIN, RAIN)), "rain iff rain iff (rain iff rain)")
        self.agrees(("and", ("or", RAIN, LIT), ("or", LIT, RAIN)), "(rain or lit(root)) and (lit(root) or rain)")
        self.agrees(
            ("or", ("and", RAIN, ("and", LIT, RAIN)), ("implies", RAIN, ("iff", LIT, LIT))),
            "rain and (lit(root) and rain) or (rain implies (lit(root) iff lit(root)))",
        )

    def test_quantifiers(self):
        self.agrees(ALL, "all X:node. lit(X)")
        self.agrees(("some", "E1", "edge", ("atom", ("free", ("E1", "edge")))), "some E1:edge. free(E1)")
        self.agrees(
            ("all", "X", "node", ("some", "Y", "node", ("atom", ("past", X, Y)))),
            "all X:node. some Y:node. past(X,Y)",
        )
        for word in OPERATORS:
            self.agrees((word, ALL, RAIN), f"(all X:node. lit(X)) {word} rain")
            self.agrees((word, RAIN, ALL), f"rain {word} (all X:node. lit(X))")
            self.agrees(("all", "X", "node", (word, LIT_X, RAIN)), f"all X:node. lit(X) {word} rain")
        self.agrees(("all", "X", "node", ("not", ("same", X, ROOT))), "all X:node. X != root")
        self.agrees(("and", ALL, ALL), "(all X:node. lit(X)) and (all X:node. lit(X))")

    def test_a_quantifier_goes_as_far_as_possible(self):
        for text, wanted in (
            ("rain and all X:node. lit(X) iff rain", ("and", RAIN, ("all", "X", "node", ("iff", LIT_X, RAIN)))),
            ("not all X:node. lit(X) and rain", ("not", ("all", "X", "node", ("and", LIT_X, RAIN)))),
            ("not some X:node. lit(X) or rain iff rain",
             ("not", ("some", "X", "node", ("iff", ("or", LIT_X, RAIN), RAIN)))),
            ("(rain or all X:node. lit(X) and rain) and rain",
             ("and", ("or", RAIN, ("all", "X", "node", ("and", LIT_X, RAIN))), RAIN)),
            ("rain implies not all X:node. not lit(X) implies rain",
             ("implies", RAIN, ("not", ("all", "X", "node", ("implies", ("not", LIT_X), RAIN))))),
            ("(not all X:node. lit(X)) and rain", ("and", ("not", ALL), RAIN)),
        ):
            self.assertEqual(read_sentence(GRAPH, text), wanted, text)

    def test_more_brackets_and_other_spaces(self):
        for text, wanted in (
            ("((rain))", RAIN), (" ( root=leaf ) ", SAME), ("root!=leaf", OTHER), ("\nroot\n!=\nleaf\n", OTHER),
            ("((rain)and(lit( root )))", ("and", RAIN, LIT)), ("all X : node . ( lit ( X ) )", ALL),
            ("(all X:node.lit(X))", ALL), ("not(not(rain))", ("not", ("not", RAIN))), ("((true))", ("true",)),
            ("(rain and rain) and rain", ("and", ("and", RAIN, RAIN), RAIN)),
            ("rain implies (rain implies rain)", ("implies", RAIN, ("implies", RAIN, RAIN))),
            ("(((rain or lit(root)))) and rain", ("and", ("or", RAIN, LIT), RAIN)),
            ("(all X:node. (lit(X)))and rain", ("and", ALL, RAIN)),
        ):
            self.assertEqual(read_sentence(GRAPH, text), wanted, text)

    def test_long_chains(self):
        for word in OPERATORS:
            chain = RAIN
            for _ in range(300):
                chain = (word, RAIN, chain) if word == "implies" else (word, chain, RAIN)
            self.agrees(chain, f" {word} ".join(["rain"] * 301))
        self.agrees(("not", ("not", ("not", RAIN))), "not " * 3 + "rain")
        denied = RAIN
        for _ in range(300):
            denied = ("not", denied)
        self.agrees(denied, "not " * 300 + "rain")
        self.assertEqual(read_sentence(GRAPH, "(" * 300 + "rain" + ")" * 300), RAIN)

    def test_all_small_formulas(self):
        layers = [[RAIN, SAME, OTHER, ("true",)]]
        for _ in range(2):
            below = [formula for layer in layers for formula in layer][:14]
            layer = [("not", one) for one in below] + [("all", "X" + str(len(layers)), "node", one) for one in below]
            layer += [(word, one, two) for word in OPERATORS for one in below for two in below]
            layers.append(layer)
        formulas = [formula for layer in layers for formula in layer if is_sentence(GRAPH, formula)]
        self.assertGreater(len(formulas), 800)
        for formula in formulas:
            self.assertEqual(read_sentence(GRAPH, formula_text(formula)), formula)


class TestReading(unittest.TestCase):
    """In the texts a mark @ stands before the column that the error tells; it is taken out first."""

    def refuses(self, error, marked, vocabulary=GRAPH):
        with self.assertRaises(error, msg=marked) as caught:
            read_sentence(vocabulary, marked.replace("@", ""))
        self.assertEqual(type(caught.exception), error, marked)
        self.assertEqual(caught.exception.column, marked.index("@"), marked)

    def test_round_one(self):
        for marked in (
            "@%", "rain @& rain", "@!rain", "root @!leaf", "rain@;", "rain @And2B", "all @XY:node. rain", "rain @0",
            "all @X1X:node. rain", "rain and @thunderous", "rain@\t", "(@-", ")) @rAin _", ")) rain @_ rAin", "lit(@1)",
            "rain@! = rain", "lit@[root]", "@predicates", "\n\n@rain2BX",
        ):
            self.refuses(BadText, marked)

    def test_round_one_wins(self):
        self.refuses(BadText, "stone(all) ) @?")
        self.refuses(BadText, "X and lit(@?")
        self.refuses(BadText, "all X:stone. lit(loop) @#")

    def test_round_two_operands_and_operators(self):
        for marked in (
            "@", "  @", "@)", "(@", "(@)", "@and", "@implies rain", "@=", "@.", "@:", "@,", "@|", "@!=",
            "rain@)", "rain @rain", "(rain@", "((rain)@", "(rain)@)", "rain @not rain", "rain and@", "rain and @",
            "rain and @or rain", "rain and @)", "not@", "not @)", "not @and rain", "not@:", "rain @true", "rain(@)",
            "rain(root) @(root)", "rain @| rain", "rain@. rain", "not rain @)", "rain implies@", "rain iff \n@",
            "@sort", "@truth", "@predicate", "@function", "@axiom", "rain and @predicate", "true@(root)", "true @= true",
            "true@!=false", "not true @= false", "(rain and rain@", "((rain) and rain)@)",
        ):
            self.refuses(BadText, marked)

    def test_round_two_quantifiers(self):
        for marked in (
            "rain @all X:node. rain", "all@", "all @node", "all @(X:node)", "all X@", "all X @rain", "all X:@", "all X:@X",
            "all X:@true. rain", "all X:node@", "all X:node @rain", "all X:node.@", "all X:node. @", "all X:node. @)",
            "all X@.node", "all X:node@: rain", "all X:node@, Y:node. rain", "all X:node. X@", "some X:node. rain @.",
            "not all X:node. @and rain", "some @all X:node. rain",
        ):
            self.refuses(BadText, marked)

    def test_round_two_terms_and_equations(self):
        for marked in (
            "X@", "X @", "X @and rain", "X@)", "(X@)", "X@(root)", "X@:node = root", "X@,", "X =@", "X = @true",
            "X = @not X", "X = @(X)", "X = X @= X", "(X = X@", "(root) @= leaf", "(root)@= leaf", "root = @(leaf)",
            "lit(root@", "lit(root)@)", "lit(@not rain)", "lit(@true)", "lit(root @= leaf)", "lit(X@:node)",
            "lit(root @and rain)", "lit(@(root))", "lit(root)@,", "root != leaf @!= leaf", "lit(@)", "lit( @)",
            "lit(root,@)", "lit(@,root)", "lit(root @leaf)", "lit(X@(root))", "root @root = leaf",
            "next(root)@(root) = leaf", "lit(@predicate)",
        ):
            self.refuses(BadText, marked)

    def test_round_two_wins(self):
        self.refuses(BadText, "stone(X) = Y @(")
        self.refuses(BadText, "all X:stone. all X:stone. lit(X) @X")
        self.refuses(BadText, "lit and @")
        self.refuses(BadText, "rain @X predicate truth sort function axiom")

    def test_single_errors_of_round_three(self):
        for error, marked in (
            (UnknownName, "@stone"), (UnknownName, "@root"), (UnknownName, "@node"), (UnknownName, "@next(root)"),
            (UnknownName, "rain and @stone(root)"), (UnknownName, "lit(@stone)"), (UnknownName, "lit(@rain)"),
            (UnknownName, "lit(@lit(root))"), (UnknownName, "lit(@X)"), (UnknownName, "@X = root"),
            (UnknownName, "root = @X"), (UnknownName, "root = @rain"), (UnknownName, "@rain = rain"),
            (UnknownName, "all X:@stone. rain"), (UnknownName, "all X:@root. rain"), (UnknownName, "all X:node. lit(@Y)"),
            (UnknownName, "(all X:node. lit(X)) or lit(@X)"), (UnknownName, "lit(@X) and all X:node. lit(X)"),
            (WrongCount, "@lit"), (WrongCount, "@rain(root)"), (WrongCount, "@lit(root,root)"),
            (WrongCount, "@next = root"), (WrongCount, "lit(@next)"), (WrongCount, "root = @root(root)"),
            (WrongCount, "lit( @next(root,root))"),
            (WrongSort, "lit(@loop)"), (WrongSort, "lit(next(  @loop))"), (WrongSort, "root = @loop"),
            (WrongSort, "root != @arc(root,root)"), (WrongSort, "all E:edge. lit(@E)"),
            (WrongSort, "all E:edge. E = @root"), (WrongSort, "all X:node. root = @arc(X,X)"),
            (NameBound, "all X:node. all @X:node. rain"), (NameBound, "all X:node. some @X:edge. rain"),
            (NameBound, "all X:node. rain and (rain implies all @X:edge. true)"),
            (NameBound, "all X:node. not (not (some @X:edge. rain))"),
        ):
            self.refuses(error, marked)

    def test_order_in_round_three(self):
        for error, marked in (
            (UnknownName, "all X:node. all X:@stone. stone"),
            (NameBound, "all X:node. all @X:node. stone"),
            (UnknownName, "@stone and all X:stone. rain"),
            (UnknownName, "@stone(loop,stone)"),
            (WrongCount, "@lit(stone,loop)"),
            (UnknownName, "past(@stone,loop)"),
            (WrongSort, "past(@loop,stone)"),
            (WrongSort, "past(@arc(root,leaf),stone)"),
            (UnknownName, "past(arc(root,@stone),stone)"),
            (WrongCount, "past(@next,loop)"),
            (UnknownName, "@stone = X"),
            (UnknownName, "loop = @stone"),
            (WrongCount, "loop = @next"),
            (WrongSort, "loop = next(@loop) or stone"),
            (WrongSort, "loop = @root or stone"),
            (UnknownName, "link(@X,Y)"),
            (WrongSort, "all E:edge. past(root,@E) and stone"),
            (UnknownName, "(all X:node. lit(X)) iff (@stone)"),
            (NameBound, "(all X:node. not (rain and some @X:node. stone)) iff stone"),
            (UnknownName, "rain implies (@stone implies all X:node. all X:node. rain)"),
        ):
            self.refuses(error, marked)

    def test_a_name_is_free_again_behind_its_quantifier(self):
        text = "(all X:node. lit(X)) and (some X:edge. free(X)) or (all X:node. X = X)"
        self.assertEqual(formula_text(read_sentence(GRAPH, text)), text)
        self.refuses(NameBound, "(all X:node. lit(X)) and all X:node. (some @X:edge. rain)")
        self.refuses(UnknownName, "all Y:node. (all X:node. lit(X)) and lit(@X)")

    def test_two_vocabularies_in_turn(self):
        small = Vocabulary(("edge",), (("rain", (), "edge"),), (("root", ("edge",)),))
        for _ in range(2):
            self.assertEqual(read_sentence(GRAPH, "rain"), RAIN)
            self.refuses(UnknownName, "@rain", small)
            self.assertEqual(read_sentence(small, "root(rain)"), ("atom", ("root", ("rain",))))
            self.refuses(UnknownName, "@root(rain)")
            self.refuses(UnknownName, "all X:@node. rain = X", small)

    def test_what_was_read_is_a_sentence(self):
        for text in ("true iff false", "all X:node. some Y:edge. link(X,Y)", "(all X:node. rain) and all X:edge. free(X)"):
            self.assertIs(is_sentence(GRAPH, read_sentence(GRAPH, text)), True)


if __name__ == "__main__":
    unittest.main()
