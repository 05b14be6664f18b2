"""Point 41: ground terms in ascending order."""

import inspect
import itertools
import unittest

from chances import SMALL, Chances
from claimworlds.errors import TooMany
from claimworlds.groundterms import ground_terms
from claimworlds.orders import Order
from claimworlds.terms import is_atom, is_term
from claimworlds.termtexts import term_text
from claimworlds.vocabularies import Vocabulary

LAND = Vocabulary(
    ("s", "t"), (("f", ("s",), "s"), ("b", (), "s"), ("g", ("s", "t"), "t"), ("a", (), "s"), ("c", (), "t")),
    (("q", ("s", "t")), ("r", ()), ("p", ("s",))),
)
# The names b, a, c, f, g, then r, p, q.
PLAIN = Order.plain(LAND)


def constants(count):
    return Vocabulary(("s",), tuple(("c" + str(number), (), "s") for number in range(count)), (("p", ("s",)), ("r", ())))


def plain_terms(vocabulary, order, most, atoms):
    """All ground terms, made again and again from those that are there, and sorted by comparing each with each."""
    found = {sort: [] for sort in vocabulary.sorts}
    count = -1
    while count < sum(len(terms) for terms in found.values()):
        count = sum(len(terms) for terms in found.values())
        for name, arguments, sort in vocabulary.functions:
            for parts in itertools.product(*[list(found[argument]) for argument in arguments]):
                term = (name,) + parts
                if term not in found[sort] and order.weight(term) <= most:
                    found[sort].append(term)
    whole = [term for terms in found.values() for term in terms]
    for name, arguments in vocabulary.predicates if atoms else ():
        for parts in itertools.product(*[found[argument] for argument in arguments]):
            if order.weight((name,) + parts) <= most:
                whole.append((name,) + parts)
    return sorted(whole, key=lambda one: sum(order.compare(one, two) == "above" for two in whole))


class TestGroundTerms(unittest.TestCase):

    def texts(self, vocabulary, order, most, **more):
        return " ".join(term_text(term) for term in ground_terms(vocabulary, order, most, **more))

    def test_a_generator(self):
        self.assertTrue(inspect.isgenerator(ground_terms(LAND, PLAIN, 2)))
        found = ground_terms(vocabulary=LAND, order=PLAIN, most=1, atoms=True)
        self.assertEqual(next(found), ("b",))
        self.assertEqual(list(found), [("a",), ("c",), ("r",)])

    def test_the_ascending_order(self):
        self.assertEqual(self.texts(LAND, PLAIN, 0), "")
        self.assertEqual(self.texts(LAND, PLAIN, 1), "b a c")
        self.assertEqual(self.texts(LAND, PLAIN, 2), "b a c f(b) f(a)")
        self.assertEqual(self.texts(LAND, PLAIN, 3), "b a c f(b) f(a) f(f(b)) f(f(a)) g(b,c) g(a,c)")

    def test_atoms_at_their_places(self):
        self.assertEqual(self.texts(LAND, PLAIN, 0, atoms=True), "")
        self.assertEqual(self.texts(LAND, PLAIN, 2, atoms=True), "b a c r f(b) f(a) p(b) p(a)")
        self.assertEqual(self.texts(LAND, PLAIN, 2, atoms=False), "b a c f(b) f(a)")
        self.assertEqual(
            self.texts(LAND, PLAIN, 3, atoms=True),
            "b a c r f(b) f(a) p(b) p(a) f(f(b)) f(f(a)) g(b,c) g(a,c) p(f(b)) p(f(a)) q(b,c) q(a,c)",
        )

    def test_other_orders(self):
        order = Order(("p", "a", "f", "r", "zz", "g", "c", "q", "b"), (2, 2, 1, 3, 1, 2, 1, 1, 1))
        self.assertEqual(self.texts(LAND, order, 1, atoms=True), "c b")
        self.assertEqual(self.texts(LAND, order, 3, atoms=True), "c b a f(b) p(b) f(a) f(f(b)) r q(b,c)")

    def test_no_constants(self):
        barren = Vocabulary(("s", "t"), (("f", ("s",), "s"), ("g", ("t", "s"), "t")), (("p", ("s",)), ("r", ())))
        order = Order.plain(barren)
        self.assertEqual(self.texts(barren, order, 9), "")
        self.assertEqual(self.texts(barren, order, 9, atoms=True), "r")
        self.assertEqual(list(ground_terms(Vocabulary((), (), ()), Order((), ()), 9, atoms=True)), [])

    def test_a_sort_without_ground_terms(self):
        functions = (("a", (), "s"), ("f", ("s", "t"), "s"), ("g", ("s",), "s"), ("h", ("s", "s", "t"), "t"))
        lonely = Vocabulary(("s", "t"), functions, (("p", ("s", "t")), ("q", ("s", "s"))))
        self.assertEqual(self.texts(lonely, Order.plain(lonely), 4, atoms=True),
                         "a g(a) g(g(a)) q(a,a) g(g(g(a))) q(a,g(a)) q(g(a),a)")

    def test_exactly_400_and_more(self):
        self.assertEqual(len(list(ground_terms(constants(400), Order.plain(constants(400)), 9))), 400)
        for vocabulary, most, atoms in ((constants(401), 1, False), (constants(400), 1, True), (constants(201), 2, True)):
            made = ground_terms(vocabulary, Order.plain(vocabulary), most, atoms=atoms)
            # The error comes with the first item.
            self.assertRaises(TooMany, next, made)
        self.assertEqual(len(list(ground_terms(constants(199), Order.plain(constants(199)), 2, atoms=True))), 399)
        self.assertEqual(len(list(ground_terms(constants(400), Order.plain(constants(400)), 1))), 400)
        self.assertEqual(len(list(ground_terms(constants(401), Order(PLAIN.names, PLAIN.weights), 0))), 0)

    def test_400_terms_of_several_weights(self):
        # There are 20 constants, 20 * 19 terms f(c, c) and no others that weigh at most 3.
        rows = tuple(("c" + str(number), (), "s") for number in range(19)) + (("d", (), "t"), ("f", ("s", "u"), "t"))
        more = tuple(("e" + str(number), (), "u") for number in range(20))
        vocabulary = Vocabulary(("s", "t", "u"), rows + more, ())
        order = Order.plain(vocabulary)
        self.assertRaises(TooMany, next, ground_terms(vocabulary, order, 3))
        fewer = Vocabulary(("s", "t", "u"), rows[:-1] + rows[-1:] + more[:19], ())
        self.assertEqual(len(list(ground_terms(fewer, Order.plain(fewer), 3))), 19 + 1 + 19 + 361)

    def test_many_arguments(self):
        """Vocabularies that the program made may have functions with more arguments, which may never be reached."""
        rows = tuple(("c" + str(number), (), "s") for number in range(300)) + (("zw0", ("s",) * 7 + ("t",), "s"), ("d", (), "t"))
        vocabulary = Vocabulary(("s", "t"), rows, ())
        self.assertEqual(len(list(ground_terms(vocabulary, Order.plain(vocabulary), 8))), 301)
        heavy = Order(Order.plain(vocabulary).names, [9 if name == "d" else 1 for name in Order.plain(vocabulary).names])
        self.assertEqual(len(list(ground_terms(vocabulary, heavy, 9))), 301)
        self.assertRaises(TooMany, list, ground_terms(vocabulary, Order.plain(vocabulary), 9))

    def test_chances(self):
        chances = Chances(41)
        names = [row[0] for row in SMALL.functions + SMALL.predicates]
        for _ in range(60):
            order = Order(chances.random.sample(names, len(names)), [chances.random.choice([1, 2, 3, 4]) for _ in names])
            for atoms in (False, True):
                most = chances.random.randint(0, 5)
                try:
                    found = list(ground_terms(SMALL, order, most, atoms=atoms))
                except TooMany:
                    continue
                self.assertEqual(found, plain_terms(SMALL, order, most, atoms))
                self.assertTrue(all(is_term(SMALL, term) or (atoms and is_atom(SMALL, term)) for term in found))


if __name__ == "__main__":
    unittest.main()
