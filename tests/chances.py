"""Terms, clauses, formulas, worlds and papers that are made by chance, from a seed."""

import random

from claimworlds.clauses import clause_of, literal_of
from claimworlds.vocabularies import Vocabulary
from claimworlds.worlds import World
from samples import TRUTH

SMALL = Vocabulary(
    ("s", "t"),
    (
        ("a", (), "s"), ("b", (), "s"), ("f", ("s",), "s"), ("g", ("s", "t"), "s"),
        ("c", (), "t"), ("h", ("s",), "t"), ("k", ("t", "t"), "t"),
    ),
    (("r", ()), ("p", ("s",)), ("q", ("s", "t")), ("u", ("t", "t"))),
)
VARIABLES = (("X", "s"), ("Y", "s"), ("X", "t"), ("W", "t"))
NAMES = ("X", "Y", "W", "U", "V2")


class Chances:
    """Makes values of the vocabulary SMALL."""

    def __init__(self, seed):
        self.random = random.Random(seed)

    def term(self, sort, depth, variables=VARIABLES):
        free = [variable for variable in variables if variable[1] == sort]
        if free and (depth == 0 or self.random.random() < 0.35):
            return self.random.choice(free)
        rows = [row for row in SMALL.functions if row[2] == sort and (depth > 0 or not row[1])]
        row = self.random.choice(rows)
        return (row[0],) + tuple(self.term(wanted, depth - 1, variables) for wanted in row[1])

    def atom(self, depth, variables=VARIABLES):
        row = self.random.choice(SMALL.predicates)
        return (row[0],) + tuple(self.term(wanted, depth, variables) for wanted in row[1])

    def literal(self, depth, variables=VARIABLES):
        chance = self.random.random()
        positive = self.random.random() < 0.5
        if chance < 0.55:
            return (positive, self.atom(depth, variables), TRUTH)
        if chance < 0.6:
            return (positive, TRUTH, TRUTH)
        sort = self.random.choice(SMALL.sorts)
        return literal_of(positive, self.term(sort, depth, variables), self.term(sort, depth, variables))

    def clause(self, most, depth):
        return clause_of([self.literal(depth) for _ in range(self.random.randint(0, most))])

    def sentence(self, depth, bound=()):
        chance = self.random.random()
        if depth == 0 or chance < 0.1:
            return self.leaf(bound)
        if chance < 0.2:
            return ("not", self.sentence(depth - 1, bound))
        free = [name for name in NAMES if name not in [variable[0] for variable in bound]]
        if chance < 0.55 and free:
            variable = (self.random.choice(free), self.random.choice(SMALL.sorts))
            return (self.random.choice(["all", "some"]),) + variable + (self.sentence(depth - 1, bound + (variable,)),)
        word = self.random.choice(["and", "or", "implies", "iff"])
        return (word, self.sentence(depth - 1, bound), self.sentence(depth - 1, bound))

    def leaf(self, bound):
        chance = self.random.random()
        if chance < 0.12:
            return (self.random.choice(["true", "false"]),)
        if chance < 0.75:
            return ("atom", self.atom(1, bound))
        sort = self.random.choice(SMALL.sorts)
        return ("same", self.term(sort, 1, bound), self.term(sort, 1, bound))

    def world(self, most):
        sizes = {sort: self.random.randint(1, most) for sort in SMALL.sorts}
        tables = []
        for row in SMALL.functions + SMALL.predicates:
            count = 1
            for sort in row[1]:
                count *= sizes[sort]
            if len(row) == 3:
                tables.append([self.random.randrange(sizes[row[2]]) for _ in range(count)])
            else:
                tables.append([self.random.random() < 0.5 for _ in range(count)])
        return World(SMALL, list(sizes.values()), tables)
