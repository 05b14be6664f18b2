"""Points 38 to 40: orders of terms, literals and clauses."""

import itertools
import unittest

from chances import SMALL, VARIABLES, Chances
from claimworlds.clausetexts import read_clause
from claimworlds.errors import BadWeight, NameTaken
from claimworlds.orders import Order
from claimworlds.terms import is_variable, variables_of
from claimworlds.termtexts import read_term
from claimworlds.vocabularies import Vocabulary
from samples import TRUTH, deep_term

LAND = Vocabulary(
    ("s", "t"),
    (
        ("a", (), "s"), ("b", (), "s"), ("c", (), "t"), ("f", ("s",), "s"), ("g", ("s", "s"), "s"), ("h", ("t",), "s"),
        ("k", ("s", "s", "s"), "s"),
    ),
    (("r", ()), ("p", ("s",)), ("q", ("s", "s"))),
)
PLAIN = Order.plain(LAND)
# The constant b weighs as much as f(a), and the predicates stand below the functions.
ODD = Order(("r", "q", "p", "g", "b", "a", "f", "c", "h", "k"), (1, 1, 1, 2, 3, 2, 1, 1, 2, 1))
TURNED = {"above": "below", "below": "above", "same": "same", "open": "open"}


def term(text):
    return read_term(LAND, text)


def literals(text):
    """Literals in order, in the order of the text, also several times the same one."""
    return [read_clause(LAND, part)[0] for part in text.split(" | ")] if text else []


class TestMaking(unittest.TestCase):

    def refuses(self, error, name, names, weights):
        for kind in (list, tuple):
            with self.assertRaises(error) as caught:
                Order(kind(names), kind(weights))
            self.assertIs(type(caught.exception), error)
            self.assertEqual(caught.exception.name, name)

    def test_fields(self):
        for kind in (list, tuple):
            made = Order(names=kind(("p", "f", "a")), weights=kind((1, 9, 2)))
            self.assertEqual((made.names, made.weights), (("p", "f", "a"), (1, 9, 2)))
        self.assertEqual((Order((), ()).names, Order((), ()).weights), ((), ()))

    def test_later_changes_of_what_was_passed(self):
        names = ["a", "b"]
        weights = [1, 2]
        made = Order(names, weights)
        names[0] = "c"
        names.append("a")
        weights[0] = 9
        self.assertEqual((made.names, made.weights), (("a", "b"), (1, 2)))
        self.assertEqual(made.compare(("a",), ("b",)), "below")
        self.assertEqual(made.weight(("a",)), 1)

    def test_weights(self):
        for weight in (0, 10, -1, 100):
            self.refuses(BadWeight, "b", ("a", "b", "c"), (1, weight, 1))
            self.refuses(BadWeight, "a", ("a", "b"), (weight, weight))
        self.assertEqual(Order(("a", "b"), (1, 9)).weights, (1, 9))

    def test_taken_names(self):
        self.refuses(NameTaken, "a", ("a", "b", "a", "b"), (1, 1, 1, 1))
        self.refuses(NameTaken, "b", ("a", "b", "b", "a"), (1, 1, 1, 1))

    def test_taken_names_come_first(self):
        self.refuses(NameTaken, "b", ("a", "b", "b"), (0, 10, 1))
        self.refuses(NameTaken, "a", ("a", "a"), (0, 0))

    def test_plain(self):
        mixed = Vocabulary(
            ("s",),
            (
                ("f3", ("s", "s", "s"), "s"), ("c1", (), "s"), ("f1", ("s",), "s"), ("f2", ("s", "s"), "s"), ("c0", (), "s"),
                ("e1", ("s",), "s"), ("e3", ("s", "s", "s"), "s"),
            ),
            (("p2", ("s", "s")), ("p0", ()), ("p3", ("s", "s", "s")), ("p1", ("s",)), ("o0", ()), ("o2", ("s", "s"))),
        )
        made = Order.plain(vocabulary=mixed)
        self.assertEqual(
            made.names, ("c1", "c0", "f1", "e1", "f2", "f3", "e3", "p0", "o0", "p1", "p2", "o2", "p3"),
        )
        self.assertEqual(made.weights, (1,) * 13)
        self.assertIs(type(made), Order)
        empty = Order.plain(Vocabulary((), (), ()))
        self.assertEqual((empty.names, empty.weights), ((), ()))


class TestWeight(unittest.TestCase):

    def test_weights(self):
        for text, plain, odd in (
            ("X:s", 1, 1), ("a", 1, 2), ("b", 1, 3), ("f(b)", 2, 4), ("g(X:s,X:s)", 3, 4), ("k(a,f(b),h(c))", 6, 10), ("h(T:t)", 2, 3),
        ):
            self.assertEqual(PLAIN.weight(term(text)), plain, text)
            self.assertEqual(ODD.weight(term=term(text)), odd, text)

    def test_atoms_and_the_truth(self):
        self.assertEqual(PLAIN.weight(("r",)), 1)
        self.assertEqual(Order(("a", "r", "q"), (2, 7, 3)).weight(("r",)), 7)
        self.assertEqual(Order(("a", "r", "q"), (2, 7, 3)).weight(("q", ("a",), ("X", "s"))), 6)
        self.assertEqual(PLAIN.weight(TRUTH), 1)
        self.assertEqual(ODD.weight(TRUTH), 1)


class TestCompare(unittest.TestCase):

    def compares(self, order, one, two, word):
        one = term(one) if isinstance(one, str) else one
        two = term(two) if isinstance(two, str) else two
        self.assertEqual(order.compare(one, two), word, (one, two))
        self.assertEqual(order.compare(one=two, two=one), TURNED[word], (two, one))

    def test_equal_terms(self):
        for text in ("a", "X:s", "g(X:s,f(Y:s))"):
            self.compares(PLAIN, text, text, "same")
        self.compares(PLAIN, TRUTH, TRUTH, "same")
        self.compares(PLAIN, ("q", ("a",), ("b",)), ("q", ("a",), ("b",)), "same")

    def test_more_weight(self):
        self.compares(PLAIN, "f(a)", "b", "above")
        self.compares(PLAIN, "f(f(X:s))", "f(X:s)", "above")
        self.compares(PLAIN, "g(X:s,a)", "f(X:s)", "above")
        self.compares(PLAIN, "f(f(a))", "k(a,a,a)", "below")
        self.compares(ODD, "b", "f(X:s)", "open")
        self.compares(ODD, "b", "a", "above")
        self.compares(ODD, "g(X:s,X:s)", "f(f(X:s))", "above")

    def test_more_weight_but_a_variable_that_occurs_too_often(self):
        self.compares(PLAIN, "f(f(a))", "f(X:s)", "open")
        self.compares(PLAIN, "k(X:s,a,a)", "g(X:s,X:s)", "open")
        self.compares(PLAIN, "f(f(f(X:s)))", "g(X:s,Y:s)", "open")
        self.compares(PLAIN, "k(X:s,X:s,a)", "g(X:s,X:s)", "above")
        self.compares(PLAIN, "k(X:s,Y:s,a)", "g(Y:s,X:s)", "above")

    def test_a_higher_rank(self):
        self.compares(PLAIN, "b", "a", "above")
        self.compares(PLAIN, "f(a)", "h(c)", "below")
        self.compares(PLAIN, "g(a,b)", "f(f(b))", "above")
        self.compares(PLAIN, "g(X:s,a)", "f(f(X:s))", "above")
        self.compares(ODD, "f(a)", "b", "above")
        self.compares(ODD, "g(a,a)", "f(f(f(b)))", "below")

    def test_a_higher_rank_but_a_variable_that_occurs_too_often(self):
        self.compares(PLAIN, "g(a,b)", "f(f(X:s))", "open")
        self.compares(PLAIN, "g(X:s,b)", "f(f(X:s))", "above")
        self.compares(PLAIN, "g(Y:s,b)", "f(f(X:s))", "open")
        self.compares(PLAIN, "k(a,X:s,X:s)", "g(X:s,f(X:s))", "above")
        self.compares(PLAIN, "k(a,b,X:s)", "g(X:s,f(X:s))", "open")

    def test_the_first_difference_in_each_part(self):
        for order in (PLAIN, Order(PLAIN.names[::-1], PLAIN.weights)):
            low, high = ("a", "b") if order is PLAIN else ("b", "a")
            for others in itertools.product("ab", repeat=2):
                self.compares(order, f"k({high},{others[0]},{others[1]})", f"k({low},{others[1]},{others[0]})", "above")
                self.compares(order, f"k({others[0]},{high},{others[0]})", f"k({others[0]},{low},{others[1]})", "above")
                self.compares(order, f"k({others[0]},{others[1]},{high})", f"k({others[0]},{others[1]},{low})", "above")
        # The first difference decides, also if a later one goes the other way; weights come before it.
        self.compares(PLAIN, "g(f(a),b)", "g(a,f(b))", "above")
        self.compares(PLAIN, "g(a,f(a))", "g(b,a)", "above")
        self.compares(PLAIN, "f(g(a,b))", "f(g(b,a))", "below")
        self.compares(PLAIN, "g(f(f(b)),a)", "g(f(f(a)),b)", "above")
        self.compares(PLAIN, "g(X:s,b)", "g(X:s,a)", "above")
        # The parts with the first difference are compared by themselves: there the weight of f(b) and of a counts.
        self.compares(PLAIN, "g(g(a,f(b)),b)", "g(g(b,a),f(b))", "above")
        self.compares(PLAIN, "g(g(X:s,f(b)),b)", "g(g(Y:s,a),f(b))", "open")

    def test_the_first_difference_but_a_variable_that_occurs_too_often(self):
        self.compares(PLAIN, "g(X:s,Y:s)", "g(Y:s,X:s)", "open")
        self.compares(PLAIN, "g(b,X:s)", "g(a,Y:s)", "open")
        self.compares(PLAIN, "g(b,X:s)", "g(a,X:s)", "above")
        self.compares(PLAIN, "g(f(X:s),Y:s)", "g(X:s,f(Y:s))", "above")
        self.compares(PLAIN, "g(f(X:s),X:s)", "g(f(Y:s),X:s)", "open")
        self.compares(PLAIN, "g(f(b),X:s)", "g(X:s,f(b))", "open")
        self.compares(PLAIN, "g(X:s,f(b))", "g(b,f(X:s))", "open")
        # In the first part in which they differ a variable occurs too often, in the whole terms it does not.
        self.compares(PLAIN, "g(f(a),X:s)", "g(X:s,f(a))", "open")
        self.compares(PLAIN, "k(f(a),X:s,b)", "k(f(X:s),a,a)", "open")

    def test_variables(self):
        self.compares(PLAIN, "X:s", "Y:s", "open")
        self.compares(PLAIN, ("X", "s"), ("X", "t"), "open")
        self.compares(PLAIN, "X:s", "a", "open")
        self.compares(ODD, "X:s", "b", "open")
        self.compares(PLAIN, "X:s", "f(a)", "open")
        self.compares(PLAIN, "X:s", "f(Y:s)", "open")
        self.compares(PLAIN, "X:s", "f(X:s)", "below")
        self.compares(PLAIN, "X:s", "g(a,g(Y:s,X:s))", "below")
        self.compares(PLAIN, "f(X:s)", "h(X:t)", "open")

    def test_the_truth(self):
        self.compares(PLAIN, TRUTH, ("r",), "below")
        self.compares(ODD, TRUTH, ("r",), "below")
        self.compares(ODD, TRUTH, "c", "below")
        self.compares(PLAIN, TRUTH, "a", "below")
        self.compares(PLAIN, TRUTH, ("p", ("X", "s")), "below")
        self.compares(PLAIN, TRUTH, "f(X:s)", "below")
        self.compares(PLAIN, TRUTH, "X:s", "open")

    def test_atoms(self):
        self.compares(PLAIN, ("p", ("a",)), "f(a)", "above")
        self.compares(PLAIN, ("r",), "b", "above")
        self.compares(PLAIN, ("r",), "f(a)", "below")
        self.compares(PLAIN, ("p", ("b",)), ("p", ("a",)), "above")
        self.compares(ODD, ("p", ("a",)), "f(a)", "below")
        self.compares(PLAIN, ("q", ("X", "s"), ("a",)), ("p", ("f", ("X", "s"))), "above")

    def test_terms_of_different_sorts(self):
        self.compares(PLAIN, "c", "a", "above")
        self.compares(PLAIN, "c", "f(a)", "below")
        self.compares(PLAIN, "T:t", "h(T:t)", "below")
        self.compares(ODD, "c", "h(c)", "below")

    def test_names_that_the_vocabulary_does_not_have(self):
        more = Order(("zw7", "a", "b"), (1, 2, 1))
        self.compares(more, "a", "b", "above")
        self.compares(more, ("zw7", ("a",)), "a", "above")

    def test_deep_terms(self):
        order = Order(("next", "root", "leaf"), (1, 1, 1))
        self.assertEqual(order.compare(deep_term(3000), deep_term(3001)), "below")
        self.assertEqual(order.compare(deep_term(3000), deep_term(3000)), "same")
        leaf = ("leaf",)
        for _ in range(3000):
            leaf = ("next", leaf)
        self.assertEqual(order.compare(deep_term(3000), leaf), "below")
        self.assertEqual(order.weight(leaf), 3001)

    def test_chances(self):
        """Against what point 39 says, written down in the shortest way."""
        chances = Chances(39)
        names = [row[0] for row in SMALL.functions + SMALL.predicates]
        found = {"same": 0, "above": 0, "below": 0, "open": 0}
        for _ in range(1500):
            order = Order(chances.random.sample(names, len(names)), [chances.random.choice([1, 1, 2, 3]) for _ in names])
            one = chances.term("s", 3)
            two = chances.random.choice([chances.term("s", 3), chances.term("t", 3), chances.atom(2), TRUTH])
            if chances.random.random() < 0.3:
                two = exchanged(one, chances.random.choice([("Y", "s"), ("a",), ("b",), ("f", ("a",))]))
            word = order.compare(one, two)
            self.assertEqual(word, plain_word(order, one, two))
            self.assertEqual(order.compare(two, one), TURNED[word])
            found[word] += 1
        self.assertTrue(min(found.values()) > 40, found)


def exchanged(one, new):
    """A term in which another one stands in the place of the variable X of the sort s."""
    if one == ("X", "s"):
        return new
    return one if is_variable(one) else one[:1] + tuple(exchanged(part, new) for part in one[1:])


def occurrences(variable, one):
    if one == variable:
        return 1
    return 0 if is_variable(one) else sum(occurrences(variable, part) for part in one[1:])


def is_above(order, one, two):
    if one == two or any(occurrences(variable, one) < occurrences(variable, two) for variable in variables_of(two)):
        return False
    if order.weight(one) != order.weight(two):
        return order.weight(one) > order.weight(two)
    if is_variable(one) or is_variable(two):
        return False
    if one[0] != two[0]:
        return two == TRUTH or (one != TRUTH and order.names.index(one[0]) > order.names.index(two[0]))
    differences = [parts for parts in zip(one[1:], two[1:]) if parts[0] != parts[1]]
    return is_above(order, *differences[0])


def plain_word(order, one, two):
    if one == two:
        return "same"
    if is_above(order, one, two):
        return "above"
    return "below" if is_above(order, two, one) else "open"


class TestLiterals(unittest.TestCase):

    def compares(self, one, two, word, order=PLAIN):
        (one,) = literals(one)
        (two,) = literals(two)
        self.assertEqual(order.compare_literals(one, two), word, (one, two))
        self.assertEqual(order.compare_literals(one=two, two=one), TURNED[word], (two, one))

    def test_equal_literals(self):
        for text in ("p(a)", "not p(a)", "f(a) = b", "f(a) != b", "X:s = X:s", "true = true"):
            self.compares(text, text, "same")

    def test_signs(self):
        for side in ("f(a) = b", "X:s = Y:s", "a = a", "true = true"):
            self.compares(side.replace("=", "!="), side, "above")
        self.compares("not p(a)", "p(a)", "above")

    def test_sides(self):
        self.compares("f(a) = b", "f(a) = a", "above")
        self.compares("f(b) = a", "f(a) = b", "above")
        self.compares("f(a) = a", "b = b", "above")
        self.compares("f(a) = f(a)", "f(a) = b", "above")
        self.compares("p(b)", "not p(a)", "above")
        self.compares("f(X:s) = Y:s", "f(X:s) = X:s", "open")
        self.compares("f(X:s) = Y:s", "X:s = Y:s", "above")
        self.compares("p(X:s)", "p(Y:s)", "open")
        self.compares("p(f(X:s))", "not p(X:s)", "above")
        self.compares("f(a) = g(a,a)", "f(f(a)) != b", "above")

    def test_items_that_both_have(self):
        # Without the common g(X,Y) there stay f(X) twice and X, that is, f(X) and nothing above the other's.
        self.compares("g(X:s,Y:s) = f(X:s)", "g(X:s,Y:s) = X:s", "above")
        self.compares("g(X:s,Y:s) = f(X:s)", "g(X:s,Y:s) = f(Y:s)", "open")
        self.compares("g(X:s,Y:s) != X:s", "g(X:s,Y:s) = f(X:s)", "above")

    def test_items_as_often_as_both_have_them(self):
        # {b, a} and {b, b, a, a}: b and a stay for the negative one.
        self.compares("b = a", "b != a", "below")
        # {b, b} and {b, a}; {a, a, a, a} and {a, b}.
        self.compares("b = b", "b = a", "above")
        self.compares("a != a", "b = a", "below")
        # {X, X} and {X, Y}: X and Y stay.
        self.compares("X:s = X:s", "X:s = Y:s", "open")
        # {f(X), f(X), X, X} and {f(X), f(X)}.
        self.compares("f(X:s) != X:s", "f(X:s) = f(X:s)", "above")
        # {f(X), f(X), Y, Y} and {f(X), f(X)}.
        self.compares("f(X:s) != Y:s", "f(X:s) = f(X:s)", "above")
        # {f(X), f(X), Y, Y} and {f(X), f(X), f(X), f(X)}.
        self.compares("f(X:s) != Y:s", "f(X:s) != f(X:s)", "open")

    def test_the_order_counts(self):
        self.compares("p(a)", "f(a) = b", "above")
        self.compares("p(a)", "f(a) = b", "below", ODD)


class TestClauses(unittest.TestCase):

    def compares(self, ones, twos, word, order=PLAIN):
        for kind in (list, tuple):
            self.assertEqual(order.compare_clauses(kind(literals(ones)), kind(literals(twos))), word, (ones, twos))
            self.assertEqual(order.compare_clauses(ones=kind(literals(twos)), twos=kind(literals(ones))), TURNED[word], (twos, ones))

    def test_the_empty_sequence(self):
        self.compares("", "", "same")
        self.compares("p(a)", "", "above")
        self.compares("X:s = Y:s", "", "above")
        self.compares("true = true", "", "above")

    def test_the_same_in_another_order(self):
        self.compares("p(a) | p(b) | r", "r | p(b) | p(a)", "same")
        self.compares("r | r | p(a)", "r | p(a) | r", "same")

    def test_literals_several_times(self):
        self.compares("r | r", "r", "above")
        self.compares("r | r | p(a)", "r | p(a) | p(a)", "below")
        self.compares("p(a) | p(a)", "p(b)", "below")
        self.compares("p(X:s) | p(X:s)", "p(X:s) | p(Y:s)", "open")
        self.compares("p(f(X:s))", "p(X:s) | p(X:s) | not p(X:s)", "above")

    def test_literals_that_both_have(self):
        self.compares("p(X:s) | q(Y:s,Y:s) | p(b)", "p(a) | q(Y:s,Y:s) | p(X:s)", "above")
        self.compares("p(X:s) | r", "p(Y:s) | r", "open")
        self.compares("p(X:s) | p(Y:s)", "p(X:s)", "above")

    def test_the_four_words(self):
        self.compares("not p(a)", "p(a) | r", "above")
        self.compares("p(b) | p(a)", "not p(a) | r", "above")
        self.compares("p(X:s) | f(Y:s) = Y:s", "r | f(Y:s) = Y:s", "above")
        self.compares("p(f(X:s)) | p(f(Y:s))", "p(X:s) | p(Y:s) | r", "above")
        self.compares("p(f(X:s)) | p(Z:s)", "p(X:s) | p(Y:s)", "open")
        self.compares("p(a) | p(X:s)", "p(b) | r", "open")

    def test_chances(self):
        chances = Chances(40)
        order = Order.plain(SMALL)
        found = {"same": 0, "above": 0, "below": 0, "open": 0}
        for _ in range(600):
            one = [chances.literal(1) for _ in range(chances.random.randint(0, 3))]
            two = [chances.random.choice(one + [chances.literal(1)]) for _ in range(chances.random.randint(0, 4))]
            word = order.compare_clauses(one, two)
            self.assertEqual(word, collections_word(one, two, lambda left, right: literal_above(order, left, right)))
            found[word] += 1
        self.assertTrue(min(found.values()) > 20, found)
        self.assertEqual(len(VARIABLES), 4)


def collection_above(ones, twos, above):
    left = list(ones)
    right = []
    for item in twos:
        if item in left:
            left.remove(item)
        else:
            right.append(item)
    return bool(left) and all(any(above(one, two) for one in left) for two in right)


def collections_word(ones, twos, above):
    if sorted(ones) == sorted(twos):
        return "same"
    if collection_above(ones, twos, above):
        return "above"
    return "below" if collection_above(twos, ones, above) else "open"


def literal_above(order, one, two):
    rows = [list(literal[1:]) * (1 if literal[0] else 2) for literal in (one, two)]
    return collection_above(rows[0], rows[1], lambda left, right: is_above(order, left, right))


if __name__ == "__main__":
    unittest.main()
