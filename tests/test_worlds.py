"""Points 21 to 23: worlds, and what holds in them."""

import itertools
import unittest

from chances import SMALL, VARIABLES, Chances
from claimworlds.clauses import clause_variables
from claimworlds.clausetexts import read_clause
from claimworlds.errors import BadSize, BadTable
from claimworlds.formulatexts import read_sentence
from claimworlds.vocabularies import Vocabulary
from claimworlds.worlds import World
from samples import E, TRUTH, X, Y, deep_term

LAND = Vocabulary(
    ("node", "edge"),
    (
        ("root", (), "node"), ("loop", (), "edge"), ("next", ("node",), "node"), ("arc", ("node", "edge"), "node"),
        ("way", ("edge", "node", "edge"), "edge"),
    ),
    (("rain", ()), ("lit", ("node",)), ("link", ("node", "edge"))),
)
SIZES = (3, 2)
TABLES = (
    (2,), (1,), (1, 2, 0), (0, 1, 2, 0, 1, 2), (0, 1, 1, 0, 0, 1, 1, 0, 0, 1, 1, 1),
    (False,), (True, False, True), (True, False, False, False, True, True),
)
WORLD = World(LAND, SIZES, TABLES)
HOLD = ("true",)
FAIL = ("false",)


def with_table(index, table):
    return TABLES[:index] + (table,) + TABLES[index + 1:]


class TestMaking(unittest.TestCase):

    def refuses(self, error, name, *given):
        with self.assertRaises(error) as caught:
            World(*given)
        self.assertIs(type(caught.exception), error)
        self.assertEqual(caught.exception.name, name)

    def test_fields(self):
        made = World(vocabulary=LAND, sizes=list(SIZES), tables=[list(table) for table in TABLES])
        self.assertIs(made.vocabulary, LAND)
        self.assertEqual(made.sizes, SIZES)
        self.assertEqual(made.tables, TABLES)
        self.assertEqual([made.size("node"), made.size(sort="edge")], [3, 2])

    def test_later_changes_of_what_was_passed(self):
        sizes = list(SIZES)
        tables = [list(table) for table in TABLES]
        made = World(LAND, sizes, tables)
        sizes[0] = 1
        tables[0][0] = 0
        tables[6].append(True)
        tables.append([])
        self.assertEqual((made.sizes, made.tables), (SIZES, TABLES))
        self.assertEqual(made.value(("root",), {}), 2)

    def test_no_sorts(self):
        made = World(Vocabulary((), (), (("rain", ()),)), (), ((True,),))
        self.assertEqual((made.sizes, made.tables), ((), ((True,),)))
        self.assertIs(made.holds(("atom", ("rain",)), {}), True)
        nothing = World(Vocabulary((), (), ()), [], [])
        self.assertEqual((nothing.sizes, nothing.tables), ((), ()))
        self.assertIs(nothing.holds(HOLD, {}), True)

    def test_bad_sizes(self):
        for size in (0, -1, True, False, None, "2", "", -6):
            self.refuses(BadSize, "node", LAND, (size, 2), TABLES)
            self.refuses(BadSize, "edge", LAND, (3, size), TABLES)
            self.refuses(BadSize, "node", LAND, [size, size], TABLES)

    def test_tables_of_another_length(self):
        names = [row[0] for row in LAND.functions + LAND.predicates]
        for index, name in enumerate(names):
            table = TABLES[index]
            self.refuses(BadTable, name, LAND, SIZES, with_table(index, table[:-1]))
            self.refuses(BadTable, name, LAND, SIZES, with_table(index, table + table[:1]))
            self.refuses(BadTable, name, LAND, SIZES, with_table(index, ()))

    def test_what_is_no_thing(self):
        for value in (3, -1, True, False, None, "0", "", 100):
            self.refuses(BadTable, "root", LAND, SIZES, with_table(0, (value,)))
            self.refuses(BadTable, "next", LAND, SIZES, with_table(2, (0, 1, value)))
        self.refuses(BadTable, "loop", LAND, SIZES, with_table(1, (2,)))
        self.refuses(BadTable, "way", LAND, SIZES, with_table(4, (0, 1) * 5 + (1, 2)))
        self.refuses(BadTable, "root", LAND, (1, 2), ((1,),) + TABLES[1:])

    def test_what_is_no_truth_value(self):
        for value in (0, 1, 2, None, "true", ""):
            self.refuses(BadTable, "rain", LAND, SIZES, with_table(5, (value,)))
            self.refuses(BadTable, "lit", LAND, SIZES, with_table(6, (True, value, False)))

    def test_order_of_the_errors(self):
        self.refuses(BadSize, "node", LAND, (0, 0), ())
        self.refuses(BadSize, "edge", LAND, (3, True), with_table(0, (9,)))
        self.refuses(BadTable, "root", LAND, SIZES, ((), ()) + TABLES[2:])
        self.refuses(BadTable, "loop", LAND, SIZES, with_table(1, (True,))[:5] + ((1,), (), ()))
        self.refuses(BadTable, "way", LAND, SIZES, TABLES[:4] + ((0, 1), (0,), (0,), (0,)))
        self.refuses(BadTable, "lit", LAND, SIZES, TABLES[:6] + ((0, 1, 0), ()))

    def test_a_world_that_was_refused_changes_nothing(self):
        sizes = [3, 2]
        with self.assertRaises(BadTable):
            World(LAND, sizes, with_table(7, ()))
        self.assertEqual(sizes, [3, 2])


class TestValues(unittest.TestCase):

    def test_constants_and_variables(self):
        self.assertEqual(WORLD.value(("root",), {}), 2)
        self.assertEqual(WORLD.value(term=("loop",), things={X: 1}), 1)
        for thing in range(3):
            self.assertEqual(WORLD.value(X, {X: thing, Y: 0, ("X", "edge"): 1}), thing)
        self.assertEqual(WORLD.value(("X", "edge"), {X: 2, ("X", "edge"): 1}), 1)

    def test_tables_stand_in_ascending_order_of_the_tuples(self):
        things = [range(3), range(2)]
        for index, (node, edge) in enumerate(itertools.product(*things)):
            self.assertEqual(WORLD.value(("arc", X, E), {X: node, E: edge}), TABLES[3][index])
            self.assertIs(WORLD.value(("link", X, E), {X: node, E: edge}), TABLES[7][index])
        free = ("F", "edge")
        for index, (one, node, two) in enumerate(itertools.product(range(2), range(3), range(2))):
            self.assertEqual(WORLD.value(("way", E, X, free), {E: one, X: node, free: two}), TABLES[4][index])

    def test_parts_within_parts(self):
        self.assertEqual(WORLD.value(("next", ("next", ("root",))), {}), 1)
        self.assertEqual(WORLD.value(("arc", ("next", X), ("loop",)), {X: 1}), 2)
        self.assertEqual(WORLD.value(("way", ("loop",), ("arc", X, E), ("way", E, X, E)), {X: 2, E: 1}), 1)
        self.assertEqual(WORLD.value(("way", ("loop",), ("arc", X, E), ("way", E, X, E)), {X: 2, E: 0}), 0)
        self.assertEqual(World(LAND, SIZES, with_table(2, (1, 2, 0))).value(("next", ("arc", ("root",), E)), {E: 1}), 0)

    def test_atoms_and_the_truth(self):
        self.assertIs(WORLD.value(("rain",), {}), False)
        self.assertIs(WORLD.value(("lit", ("next", X)), {X: 1}), True)
        self.assertIs(WORLD.value(("lit", ("next", X)), {X: 0}), False)
        self.assertIs(WORLD.value(TRUTH, {}), True)
        self.assertIs(WORLD.value(TRUTH, {X: 1}), True)

    def test_deep_terms(self):
        ring = World(Vocabulary(("node",), (("root", (), "node"), ("next", ("node",), "node")), ()), (3,), ((1,), (1, 2, 0)))
        self.assertEqual(ring.value(deep_term(3000), {}), 1)
        self.assertEqual(ring.value(deep_term(3001), {}), 2)


class TestFormulas(unittest.TestCase):

    def holds(self, text):
        return WORLD.holds(read_sentence(LAND, text), {})

    def test_leaves(self):
        self.assertIs(WORLD.holds(HOLD, {}), True)
        self.assertIs(WORLD.holds(formula=FAIL, things={}), False)
        self.assertIs(self.holds("rain"), False)
        self.assertIs(self.holds("lit(root)"), True)
        self.assertIs(self.holds("next(root) = root"), False)
        self.assertIs(self.holds("next(next(next(root))) = root"), True)
        self.assertIs(WORLD.holds(("same", X, ("root",)), {X: 2}), True)
        self.assertIs(WORLD.holds(("same", X, ("root",)), {X: 1, Y: 2}), False)

    def test_connectives(self):
        for one, two in itertools.product((True, False), repeat=2):
            left = HOLD if one else FAIL
            right = HOLD if two else FAIL
            self.assertIs(WORLD.holds(("not", left), {}), not one)
            for word, wanted in (
                ("and", one and two), ("or", one or two), ("implies", not one or two), ("iff", one == two),
            ):
                self.assertIs(WORLD.holds((word, left, right), {}), wanted, (word, one, two))
                self.assertIs(WORLD.holds(("not", (word, ("not", left), ("not", right))), {}),
                              not WORLD.holds((word, ("not", left), ("not", right)), {}))

    def test_quantifiers(self):
        self.assertIs(self.holds("all X:node. next(next(next(X))) = X"), True)
        self.assertIs(self.holds("all X:node. lit(X)"), False)
        self.assertIs(self.holds("some X:node. lit(X)"), True)
        self.assertIs(self.holds("some X:node. next(X) = X"), False)
        self.assertIs(self.holds("all X:node. lit(X) or lit(next(X))"), True)
        self.assertIs(self.holds("all X:node. some Y:node. next(Y) = X"), True)
        self.assertIs(self.holds("some Y:node. all X:node. next(Y) = X"), False)
        self.assertIs(self.holds("all X:node. some E:edge. link(X,E)"), False)
        self.assertIs(self.holds("some X:node. all E:edge. link(X,E) and lit(X)"), True)
        self.assertIs(self.holds("all E:edge. some X:node. link(X,E) and not lit(next(X))"), False)

    def test_sorts_with_one_thing(self):
        one = World(Vocabulary(("node",), (("root", (), "node"),), (("lit", ("node",)),)), (1,), ((0,), (True,)))
        for word in ("all", "some"):
            self.assertIs(one.holds((word, "X", "node", ("atom", ("lit", X))), {}), True)
            self.assertIs(one.holds((word, "X", "node", ("not", ("atom", ("lit", X)))), {}), False)
            self.assertIs(one.holds((word, "X", "node", FAIL), {}), False)

    def test_things_of_variables(self):
        lit_x = ("atom", ("lit", X))
        for thing in range(3):
            things = {X: thing, Y: 1, E: 1}
            self.assertIs(WORLD.holds(lit_x, things), thing != 1)
            # A key for a bound variable has no effect where it is bound, but beside and behind that place.
            self.assertIs(WORLD.holds(("some", "X", "node", lit_x), things), True)
            self.assertIs(WORLD.holds(("all", "X", "node", lit_x), things), False)
            self.assertIs(WORLD.holds(("and", ("some", "X", "node", lit_x), lit_x), things), thing != 1)
            self.assertIs(WORLD.holds(("or", ("all", "X", "node", lit_x), lit_x), things), thing != 1)
            self.assertIs(WORLD.holds(("iff", lit_x, ("all", "X", "edge", lit_x)), things), True)
            self.assertEqual(things, {X: thing, Y: 1, E: 1})

    def test_an_inner_quantifier_hides_an_outer_one(self):
        same_root = ("same", X, ("root",))
        inner = ("some", "X", "node", same_root)
        self.assertIs(WORLD.holds(("all", "X", "node", inner), {}), True)
        self.assertIs(WORLD.holds(("all", "X", "node", ("and", inner, same_root)), {}), False)
        self.assertIs(WORLD.holds(("some", "X", "node", ("and", inner, ("not", same_root))), {}), True)
        self.assertIs(WORLD.holds(("some", "X", "node", ("all", "X", "node", same_root)), {}), False)

    def test_long_and_deep_formulas(self):
        for word, leaf in (("and", HOLD), ("or", FAIL), ("iff", HOLD)):
            left = right = leaf
            for _ in range(3000):
                left = (word, left, leaf)
                right = (word, leaf, right)
            self.assertIs(WORLD.holds(left, {}), leaf == HOLD)
            self.assertIs(WORLD.holds(right, {}), leaf == HOLD)
        denied = HOLD
        for _ in range(3001):
            denied = ("not", denied)
        self.assertIs(WORLD.holds(denied, {}), False)

    def test_chances(self):
        chances = Chances(21)
        for _ in range(300):
            world = chances.world(3)
            sentence = chances.sentence(4)
            self.assertIs(world.holds(sentence, {}), plainly_holds(world, sentence, {}))


def plainly_holds(world, formula, things):
    """What point 22 says of formulas, written down in the shortest way."""
    kind = formula[0]
    if kind in ("true", "false"):
        return kind == "true"
    if kind == "atom":
        return world.value(formula[1], things)
    if kind == "same":
        return world.value(formula[1], things) == world.value(formula[2], things)
    if kind in ("all", "some"):
        found = [
            plainly_holds(world, formula[3], {**things, formula[1:3]: thing}) for thing in range(world.size(formula[2]))
        ]
        return all(found) if kind == "all" else any(found)
    inner = [plainly_holds(world, part, things) for part in formula[1:]]
    return {
        "not": not inner[0], "and": all(inner), "or": any(inner), "implies": not inner[0] or inner[-1], "iff": inner[0] == inner[-1],
    }[kind]


class TestClauses(unittest.TestCase):

    def read(self, text):
        return read_clause(LAND, text)

    def test_literals(self):
        things = {X: 2, Y: 1}
        for text, wanted in (
            ("root = X:node", True), ("root != X:node", False), ("root = Y:node", False), ("root != Y:node", True), ("rain", False),
            ("not rain", True), ("lit(X:node)", True), ("not lit(X:node)", False), ("not lit(Y:node)", True), ("true = true", True),
            ("true != true", False), ("next(Y:node) = X:node", True), ("X:node != X:node", False),
        ):
            clause = self.read(text)
            self.assertIs(WORLD.literal_holds(clause[0], things), wanted, text)
            self.assertIs(WORLD.literal_holds(literal=clause[0], things=things), wanted, text)
            self.assertIs(WORLD.clause_holds(clause, things), wanted, text)

    def test_clauses(self):
        clause = self.read("lit(X:node) | next(X:node) = Y:node | rain")
        self.assertIs(WORLD.clause_holds(clause, {X: 0, Y: 0}), True)
        self.assertIs(WORLD.clause_holds(clause, {X: 1, Y: 2}), True)
        self.assertIs(WORLD.clause_holds(clause=clause, things={X: 1, Y: 0, E: 1}), False)
        self.assertIs(WORLD.clause_holds((), {}), False)
        self.assertIs(WORLD.clause_holds((), {X: 1}), False)

    def test_breaks(self):
        for text, wanted in (
            ("false", ()), ("rain", ()), ("rain | true != true", ()), ("not rain", None), ("lit(root)", None), ("lit(X:node)", (1,)),
            ("not lit(X:node)", (0,)), ("root != X:node", (2,)), ("next(X:node) != X:node", None), ("X:node = X:node", None),
            ("X:node = Y:node", (0, 1)), ("X:node != Y:node", (0, 0)), ("lit(X:node) | lit(Y:node)", (1, 1)),
            ("next(X:node) = Y:node | lit(X:node)", (1, 0)), ("next(X:node) = Y:node | X:node = Y:node", (0, 1)),
        ):
            self.assertEqual(WORLD.break_of(self.read(text)), wanted, text)

    def test_the_least_tuple_in_the_order_of_the_variables(self):
        clause = self.read("link(Y:node,E:edge) | not link(X:node,E:edge)")
        self.assertEqual(clause_variables(clause), (X, E, Y))
        self.assertEqual(WORLD.break_of(clause), (0, 0, 1))
        self.assertEqual(WORLD.break_of(clause=self.read("link(X:node,E:edge) | X:node = root")), (0, 1))
        clause = self.read("X:edge = E:edge | next(X:node) = Y:node")
        self.assertEqual(clause_variables(clause), (("X", "edge"), E, X, Y))
        self.assertEqual(WORLD.break_of(clause), (0, 1, 0, 0))

    def test_many_variables(self):
        text = " | ".join([f"lit(V{number}:node)" for number in range(12)])
        self.assertEqual(WORLD.break_of(self.read(text)), (1,) * 12)
        self.assertIsNone(WORLD.break_of(self.read(text + " | not rain")))

    def test_chances(self):
        chances = Chances(22)
        for _ in range(400):
            world = chances.world(3)
            clause = chances.clause(4, 2)
            variables = clause_variables(clause)
            broken = []
            for chosen in itertools.product(*[range(world.size(variable[1])) for variable in variables]):
                things = dict(zip(variables, chosen))
                if not any((world.value(one, things) == world.value(two, things)) is positive for positive, one, two in clause):
                    broken.append(chosen)
                self.assertIs(world.clause_holds(clause, things), chosen not in broken)
            self.assertEqual(world.break_of(clause), broken[0] if broken else None)
        self.assertEqual(world.size(SMALL.sorts[0]), world.sizes[0])
        self.assertEqual(len(VARIABLES), 4)


if __name__ == "__main__":
    unittest.main()
