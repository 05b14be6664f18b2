"""Points 70 to 74: own worlds of endings, finite worlds, papers of equations."""

import itertools
import unittest

import chances as making
from claimworlds.checking import last_line
from claimworlds.choosing import drive_run
from claimworlds.clauses import clause_of, clause_variables, filled_clause, literal_of
from claimworlds.clausetexts import read_clause
from claimworlds.endings import Ending
from claimworlds.equations import equation_paper
from claimworlds.errors import NotUnits, TooHeavy, TooMany
from claimworlds.fillings import Filling
from claimworlds.finite import finite_world
from claimworlds.orders import Order
from claimworlds.ownworlds import OwnWorld
from claimworlds.papers import Paper
from claimworlds.runs import Run
from claimworlds.terms import is_atom, sort_of
from claimworlds.termtexts import read_term, term_text
from claimworlds.vocabularies import Vocabulary
from claimworlds.worlds import World
from plainworlds import PlainWorld

TRUTH = ("true",)
SPOT = Vocabulary(
    ("s", "t"), (("a", (), "s"), ("b", (), "s"), ("c", (), "s"), ("f", ("s",), "s"), ("d", (), "t"), ("h", ("s",), "t")),
    (("r", ()), ("p", ("s",)), ("q", ("s", "t"))),
)
PLAIN = Order.plain(SPOT)
CHAIN = Vocabulary(("s",), (("a", (), "s"), ("b", (), "s"), ("f", ("s",), "s")), (("p", ("s",)), ("r", ())))
ATOMS = ("r", "p", "q")


def term(text, vocabulary=SPOT):
    """The term with this text, or the atom."""
    if text == "true":
        return TRUTH
    if text.split("(")[0] in ATOMS:
        return read_clause(vocabulary, text)[0][1]
    return read_term(vocabulary, text)


def ending_of(*lines, selection="none", order=PLAIN, vocabulary=SPOT):
    return Ending(order, selection, [read_clause(vocabulary, line) for line in lines], (), ())


class WorldCase(unittest.TestCase):

    def rules(self, most, lines, *wanted, selection="none", order=PLAIN, vocabulary=SPOT):
        """The own world has exactly these rules, and it is the one of the plainest way."""
        ending = ending_of(*lines, selection=selection, order=order, vocabulary=vocabulary)
        own = OwnWorld(vocabulary, ending, most)
        self.assertEqual([f"{term_text(left)} {term_text(right)}" for left, right in own.rules], list(wanted))
        self.check_plain(own)
        return own

    def check_plain(self, own):
        plain = PlainWorld(own.vocabulary, own.ending, own.most)
        self.assertEqual(own.rules, tuple(plain.rules.items()))
        for one in plain.terms:
            self.assertEqual(own.value(one), plain.value(one))
        for sort in own.vocabulary.sorts:
            wanted = [one for one in plain.terms if sort_of(own.vocabulary, one) == sort and plain.value(one) == one]
            self.assertEqual(own.values_of(sort), tuple(wanted))


class TestRules(WorldCase):

    def test_no_clauses(self):
        own = self.rules(2, [])
        self.assertEqual(own.value(term("f(a)")), term("f(a)"))
        self.assertEqual(own.value(term("p(a)")), term("p(a)"))
        self.assertEqual((own.vocabulary, own.most, own.rules), (SPOT, 2, ()))
        self.assertIsInstance(own.ending, Ending)

    def test_terms(self):
        own = self.rules(3, ["f(X:s) = X:s", "b = a"], "b a", "f(a) a", "f(c) c")
        self.assertEqual(own.value(term("f(f(b))")), term("a"))
        self.assertEqual(own.value(term("h(f(b))")), term("h(a)"))
        self.assertEqual(own.value(term("p(f(b))")), term("p(a)"))
        self.assertEqual(own.values_of("s"), (term("a"), term("c")))
        self.assertEqual(own.values_of("t"), (term("d"), term("h(a)"), term("h(c)")))

    def test_atoms(self):
        own = self.rules(2, ["p(X:s)", "r"], "r true", "p(a) true", "p(b) true", "p(c) true")
        self.assertEqual(own.value(term("p(a)")), TRUTH)
        self.assertEqual(own.value(TRUTH), TRUTH)
        self.assertEqual(own.value(term("r")), TRUTH)

    def test_a_part_that_is_not_its_own_value(self):
        """There is no rule for p(b), whose part has another value; p(b) has the value of p(a) all the same."""
        own = self.rules(2, ["b = a", "p(a)"], "b a", "p(a) true")
        self.assertEqual(own.value(term("p(b)")), TRUTH)
        own = self.rules(2, ["b = a", "p(b)"], "b a")
        self.assertEqual(own.value(term("p(b)")), term("p(a)"))

    def test_a_selected_literal(self):
        lines = ["b = a | c != c"]
        self.rules(1, ["c = b | b != b"], "c b")
        self.rules(1, ["c = b | b != b"], selection="first")
        self.rules(1, lines)

    def test_values_below(self):
        """Each term of the filling is its own value: X is not b."""
        self.rules(3, ["b = a", "f(X:s) = X:s | X:s = a"], "b a", "f(c) c", "f(f(a)) f(a)")
        own = self.rules(3, ["f(X:s) = X:s"], "f(a) a", "f(b) b", "f(c) c")
        self.assertEqual(own.value(term("f(f(c))")), term("c"))

    def test_the_term_itself_in_the_filling(self):
        self.rules(1, ["X:s = a"], "b a", "c a")
        self.rules(2, ["X:s = a"], "b a", "c a", "f(a) a")

    def test_v_below_u(self):
        self.rules(1, ["X:s = c"], "c a")
        self.rules(2, ["X:s = c", "c = b"], "c a", "f(a) c", "f(b) c")
        heavy = Order(PLAIN.names, [3 if name == "a" else 1 for name in PLAIN.names])
        self.rules(3, ["f(b) = a"], "a f(b)", order=heavy)

    def test_each_other_literal_is_below(self):
        # Of p(X) | p(f(X)) only the second literal may make rules.
        own = self.rules(3, ["p(X:s) | p(f(X:s))"], "p(f(a)) true", "p(f(b)) true", "p(f(c)) true")
        self.assertFalse(own.holds(((True, term("p(a)"), TRUTH),)))
        self.rules(2, ["p(a) | not p(b)"])
        self.rules(2, ["p(b) | not p(a)"])
        self.rules(2, ["p(b) | not p(a)", "p(a)"], "p(a) true", "p(b) true")

    def test_no_other_literal_holds(self):
        self.rules(2, ["p(a) | r", "r"], "r true")
        self.rules(2, ["p(a) | r"], "p(a) true")
        self.rules(2, ["p(a) | not r"])
        self.rules(2, ["p(a) | not r", "r"], "r true", "p(a) true")
        self.rules(2, ["f(a) = a | b = a", "c = a"], "c a", "f(a) a")
        self.rules(2, ["f(a) = a | b = a", "b = a"], "b a")
        self.rules(2, ["f(a) = a | b != a", "b = a"], "b a", "f(a) a")

    def test_another_literal_with_the_same_value(self):
        """Both f(a) = b and f(a) = a would hold, for b has the value a."""
        self.rules(2, ["f(a) = b | f(a) = a", "b = a"], "b a")
        self.rules(2, ["f(a) = b | f(a) = a"], "f(a) b")
        self.rules(2, ["f(a) = c | f(a) = b", "c = a"], "c a", "f(a) c")

    def test_another_literal_with_the_same_value_at_the_other_side(self):
        heavy = Order(PLAIN.names, [5 if name == "c" else 1 for name in PLAIN.names])
        self.assertEqual(read_clause(SPOT, "f(a) = c")[0][2], term("c"))
        self.rules(5, ["f(a) = c | f(b) = c", "f(b) = f(a)", "h(X:s) = d"], "f(b) f(a)", *[
            f"h({text}) d" for text in ("a", "b", "f(a)", "f(f(a))", "f(f(f(a)))")], order=heavy)
        own = OwnWorld(SPOT, ending_of("f(a) = c | f(b) = c", order=heavy), 5)
        self.check_plain(own)
        self.assertEqual(own.rules, ((term("c"), term("f(b)")),))

    def test_the_least_of_several_candidates(self):
        self.rules(2, ["f(X:s) = b", "f(X:s) = a"], "f(a) a", "f(b) a", "f(c) a")
        self.rules(2, ["f(a) = c", "f(a) = b | r"], "f(a) b")
        self.rules(2, ["f(a) = c | r", "f(a) = c"], "f(a) c")

    def test_several_variables(self):
        """Fillings of variables that do not occur in the side itself."""
        self.rules(2, ["f(X:s) = Y:s | p(X:s)"], "p(a) true", "p(b) true", "p(c) true")
        self.rules(3, ["f(X:s) = Y:s | Y:s = a"], "f(a) b", "f(b) b", "f(c) b")
        self.rules(
            3, ["q(X:s,U:t) | p(Y:s)", "h(X:s) = d"], "h(a) d", "h(b) d", "h(c) d", "h(f(a)) d", "h(f(b)) d", "h(f(c)) d",
            "q(a,d) true", "q(b,d) true", "q(c,d) true")

    def test_several_sorts_and_weights(self):
        heavy = Order(PLAIN.names, [4 if name == "c" else 2 if name == "b" else 1 for name in PLAIN.names])
        own = OwnWorld(SPOT, ending_of("f(f(X:s)) = X:s", "h(X:s) = d", "c = f(b)", order=heavy), 5)
        self.check_plain(own)
        self.assertEqual(own.value(term("c")), term("f(b)"))
        self.assertEqual(own.value(term("f(c)")), term("b"))

    def test_too_many(self):
        many = Vocabulary(("s",), (("a", (), "s"), ("b", (), "s"), ("g", ("s", "s"), "s")), ())
        order = Order.plain(many)
        OwnWorld(many, ending_of(vocabulary=many, order=order), 5)
        self.assertRaises(TooMany, OwnWorld, many, ending_of(vocabulary=many, order=order), 9)
        atoms = Vocabulary(("s",), tuple((f"a{k}", (), "s") for k in range(20)), (("p", ("s", "s")),))
        order = Order.plain(atoms)
        OwnWorld(atoms, ending_of(vocabulary=atoms, order=order), 2)
        self.assertRaises(TooMany, OwnWorld, atoms, ending_of(vocabulary=atoms, order=order), 3)

    def test_every_given_clause_holds(self):
        """An ending that is judged True; and what is not true is not for any ending."""
        chances = making.Chances(71)
        small, making.SMALL = making.SMALL, Vocabulary(SPOT.sorts, SPOT.functions, SPOT.predicates)
        try:
            ended = 0
            rules = 0
            for _ in range(500):
                selection = chances.random.choice(["none", "first", "heaviest"])
                names = list(PLAIN.names)
                chances.random.shuffle(names)
                order = chances.random.choice([PLAIN, Order(names, [chances.random.randint(1, 2) for _ in names])])
                variables = (("X", "s"), ("Y", "s"), ("X", "t"))
                lines = []
                for _ in range(chances.random.randint(1, 4)):
                    row = [chances.literal(1, variables) for _ in range(chances.random.choice([1, 1, 2, 2, 3]))]
                    lines.append(clause_of([(True,) + one[1:] if chances.random.random() < 0.4 else one for one in row]))
                run = Run(SPOT, order, selection, lines)
                if drive_run(run, 12) != "ended":
                    continue
                own = OwnWorld(SPOT, run.make_ending(), chances.random.randint(1, 3))
                self.check_plain(own)
                ended += 1
                rules += len(own.rules)
                self.check_given(own, run.given)
            self.assertGreater(ended, 100)
            self.assertGreater(rules, 100)
        finally:
            making.SMALL = small

    def check_given(self, own, given):
        plain = PlainWorld(own.vocabulary, Ending(own.ending.order, "none", (), (), ()), own.most)
        things = {sort: [one for one in plain.terms if sort_of(SPOT, one) == sort and not is_atom(SPOT, one)] for sort in SPOT.sorts}
        for clause in given:
            variables = clause_variables(clause)
            for chosen in itertools.islice(itertools.product(*[things[sort] for _, sort in variables]), 60):
                filled = filled_clause(clause, Filling(list(zip(variables, chosen))))
                if all(own.ending.order.weight(side) <= own.most for one in filled for side in one[1:]):
                    self.assertIs(own.holds(filled), True)
        made = finite_world(own)
        if made is not None:
            for clause in given:
                self.assertIsNone(made.break_of(clause))


class TestValues(WorldCase):

    def setUp(self):
        self.own = OwnWorld(SPOT, ending_of("f(f(X:s)) = X:s", "b = a", "p(a)", "q(X:s,Y:t) | not p(X:s)"), 4)

    def test_holds(self):
        for line, wanted in (
            ("false", False), ("p(a)", True), ("p(b)", True), ("p(c)", False), ("not p(c)", True), ("not p(a)", False),
            ("f(f(b)) = a", True), ("f(f(b)) != a", False), ("f(a) = a", False), ("f(a) != b", True), ("p(c) | r", False),
            ("p(c) | p(b)", True), ("true = true", True), ("true != true", False), ("q(a,d)", True), ("q(c,d)", False),
        ):
            self.assertIs(self.own.holds(read_clause(SPOT, line)), wanted, line)

    def test_too_heavy(self):
        self.assertEqual(self.own.value(term("f(f(f(c)))")), term("f(c)"))
        for text, load in (("f(f(f(f(c))))", 5), ("p(f(f(f(a))))", 5), ("q(f(f(f(f(a)))),d)", 7)):
            with self.assertRaises(TooHeavy) as caught:
                self.own.value(term(text))
            self.assertEqual(caught.exception.load, load)

    def test_the_first_side_that_is_too_heavy(self):
        five, six = term("f(f(f(f(c))))"), term("f(f(f(f(f(c)))))")
        for clause, load in (
            (((True, five, six),), 5), (((True, six, five),), 6), (((True, term("a"), six), (True, five, term("a"))), 6),
            (((False, ("p", five), TRUTH), (True, five, six)), 6), (((True, ("p", six[1]), TRUTH), (True, TRUTH, TRUTH), (False, six, six)), 6),
        ):
            with self.assertRaises(TooHeavy) as caught:
                self.own.holds(clause)
            self.assertEqual(caught.exception.load, load)
        # A literal that holds does not help.
        self.assertRaises(TooHeavy, self.own.holds, ((True, term("a"), term("a")), (True, six, six)))

    def test_the_truth(self):
        self.assertEqual(self.own.value(TRUTH), TRUTH)
        self.assertEqual(OwnWorld(SPOT, ending_of(), 1).value(TRUTH), TRUTH)
        self.assertIs(OwnWorld(SPOT, ending_of(), 1).holds(((True, TRUTH, TRUTH),)), True)

    def test_values_of(self):
        self.assertEqual(self.own.values_of("s"), tuple(term(text) for text in ("a", "c", "f(a)", "f(c)")))
        self.assertEqual(self.own.values_of(sort="t"), tuple(term(text) for text in ("d", "h(a)", "h(c)", "h(f(a))", "h(f(c))")))
        bare = Vocabulary(("s", "t"), (("a", (), "s"), ("k", ("t",), "t")), ())
        own = OwnWorld(bare, ending_of(vocabulary=bare, order=Order.plain(bare)), 3)
        self.assertEqual((own.values_of("s"), own.values_of("t")), ((("a",),), ()))

    def test_keywords(self):
        own = OwnWorld(vocabulary=SPOT, ending=ending_of("r"), most=1)
        self.assertEqual(own.value(term=term("r")), TRUTH)
        self.assertIs(own.holds(clause=((True, term("r"), TRUTH),)), True)
        self.assertEqual(own.rules, ((("r",), TRUTH),))


class TestFinite(WorldCase):

    def made(self, lines, most, vocabulary=CHAIN):
        own = OwnWorld(vocabulary, ending_of(*lines, vocabulary=vocabulary, order=Order.plain(vocabulary)), most)
        return finite_world(own)

    def test_finite(self):
        world = self.made(["f(X:s) = X:s", "p(b)"], 2)
        self.assertIsInstance(world, World)
        self.assertEqual((world.vocabulary, world.sizes), (CHAIN, (2,)))
        self.assertEqual(world.tables, ((0,), (1,), (0, 1), (False, True), (False,)))
        world = self.made(["f(f(X:s)) = X:s", "f(a) = b", "f(b) = a", "r"], 2)
        self.assertEqual((world.sizes, world.tables), ((2,), ((0,), (1,), (1, 0), (False, False), (True,))))
        world = self.made(["b = a", "f(a) = a", "p(a)"], 2)
        self.assertEqual((world.sizes, world.tables), ((1,), ((0,), (0,), (0,), (True,), (False,))))

    def test_values_are_things_in_ascending_order(self):
        world = self.made(["f(f(X:s)) = a", "f(b) = b"], 3)
        self.assertEqual((world.sizes, world.tables[:3]), ((3,), ((0,), (1,), (2, 1, 0))))

    def test_not_finite(self):
        self.assertIsNone(self.made([], 3))
        self.assertIsNone(self.made(["f(f(f(X:s))) = X:s"], 3))

    def test_a_term_that_is_too_heavy(self):
        # The values are a and b, but f(a) or p(b) weighs more than 1.
        self.assertIsNone(self.made(["f(X:s) = X:s"], 1))
        self.assertIsNotNone(self.made(["f(X:s) = X:s"], 2))
        bare = Vocabulary(("s",), (("a", (), "s"), ("b", (), "s")), (("q", ("s", "s")),))
        self.assertIsNone(self.made([], 2, bare))
        self.assertEqual(self.made([], 3, bare).tables, ((0,), (1,), (False,) * 4))
        self.assertIsNone(finite_world(OwnWorld(CHAIN, ending_of(
            "f(X:s) = a", "b = a", vocabulary=CHAIN, order=Order(("a", "f", "p", "r", "b"), (1, 1, 1, 1, 5))), 3)))

    def test_how_many_values(self):
        for count, is_there in ((1, True), (6, True), (7, False)):
            many = Vocabulary(("s",), tuple((f"a{k}", (), "s") for k in range(count)), ())
            world = self.made([], 2, many)
            self.assertEqual(world is not None, is_there)
        none = Vocabulary(("s", "t"), (("a", (), "s"), ("k", ("t",), "t")), ())
        self.assertIsNone(self.made([], 3, none))
        world = self.made([], 1, Vocabulary((), (), (("r", ()),)))
        self.assertEqual((world.sizes, world.tables), ((), ((False,),)))

    def test_several_sorts(self):
        world = self.made(["f(X:s) = X:s", "h(X:s) = d", "c = b", "q(a,d)", "p(b)"], 3, SPOT)
        self.assertEqual(world.sizes, (2, 1))
        self.assertEqual(world.tables, ((0,), (1,), (1,), (0, 1), (0,), (0, 0), (False,), (False, True), (True, False)))


class TestEquations(WorldCase):

    def equates(self, own, one, two, wanted=True):
        paper = equation_paper(own, term(one), term(two))
        if not wanted:
            self.assertIsNone(paper)
            return
        self.assertIsInstance(paper, Paper)
        self.assertEqual(last_line(own.vocabulary, own.ending.clauses, paper), clause_of([literal_of(True, term(one), term(two))]))

    def test_equal_and_different_values(self):
        own = OwnWorld(SPOT, ending_of("f(f(X:s)) = X:s", "b = a", "p(X:s)"), 6)
        for one, two, wanted in (
            ("a", "a", True), ("a", "b", True), ("b", "a", True), ("b", "b", True), ("f(f(a))", "b", True), ("b", "f(f(f(f(b))))", True),
            ("f(b)", "f(f(f(a)))", True), ("f(a)", "a", False), ("a", "f(b)", False), ("h(b)", "h(f(f(a)))", True), ("h(b)", "d", False),
            ("c", "f(f(c))", True), ("f(f(c))", "f(f(f(f(c))))", True), ("h(f(f(b)))", "h(a)", True), ("f(f(b))", "f(f(b))", True),
        ):
            self.equates(own, one, two, wanted)

    def test_no_rules(self):
        own = OwnWorld(SPOT, ending_of(), 3)
        self.equates(own, "f(a)", "f(a)")
        self.equates(own, "f(a)", "f(b)", False)

    def test_rules_from_two_to_one(self):
        heavy = Order(PLAIN.names, [5 if name == "b" else 1 for name in PLAIN.names])
        own = OwnWorld(SPOT, ending_of("f(X:s) = b", "h(b) = h(c)", order=heavy), 7)
        for one, two in (("b", "f(a)"), ("f(a)", "b"), ("f(b)", "f(c)"), ("h(f(a))", "h(f(c))"), ("h(b)", "h(f(c))")):
            self.equates(own, one, two, own.value(term(one)) == own.value(term(two)))
        self.assertEqual(own.value(term("b")), term("f(a)"))

    def test_errors(self):
        light, heavy, heavier = term("a"), term("f(f(f(a)))"), term("f(f(f(f(a))))")
        for lines, index in (
            (["f(X:s) = a", "p(a) | r", "not r"], 1), (["not p(a)"], 0), (["p(a)", "a != b"], 1), (["p(a)", "b = a", "r", "r | p(c)"], 3),
        ):
            own = OwnWorld(SPOT, ending_of(*lines), 3)
            for one, two in ((light, light), (heavy, heavier)):
                with self.assertRaises(NotUnits) as caught:
                    equation_paper(own, one, two)
                self.assertEqual(caught.exception.index, index)
        own = OwnWorld(SPOT, ending_of("b = a"), 3)
        for one, two, load in ((heavy, heavier, 4), (heavier, heavy, 5), (light, heavier, 5), (heavy, light, 4)):
            with self.assertRaises(TooHeavy) as caught:
                equation_paper(own=own, one=one, two=two)
            self.assertEqual(caught.exception.load, load)

    def test_chances(self):
        chances = making.Chances(74)
        found = []
        for _ in range(60):
            order = chances.order()
            given = [clause_of([literal_of(True, chances.term("s", 2), chances.term("s", 2))]) for _ in range(3)]
            run = Run(making.SMALL, order, "none", given)
            drive_run(run, 10)
            ending = run.make_ending() if run.word == "ended" else Ending(order, "none", given, (), ())
            try:
                own = OwnWorld(making.SMALL, ending, 3)
            except TooMany:
                continue
            terms = [one for one in PlainWorld(making.SMALL, Ending(order, "none", (), (), ()), 3).terms if one[0] in "abfg"]
            for _ in range(40 if terms else 0):
                one, two = chances.random.choice(terms), chances.random.choice(terms)
                paper = equation_paper(own, one, two)
                found.append(paper is not None)
                self.assertEqual(paper is not None, own.value(one) == own.value(two))
                if paper is not None:
                    self.assertEqual(last_line(making.SMALL, ending.clauses, paper), clause_of([literal_of(True, one, two)]))
        self.assertTrue(100 < found.count(True) < len(found))


if __name__ == "__main__":
    unittest.main()
