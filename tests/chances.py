"""Terms, clauses, formulas, worlds and papers that are made by chance, from a seed."""

import random

from claimworlds.checking import line_of
from claimworlds.clauses import clause_of, literal_of
from claimworlds.orders import Order
from claimworlds.papers import Paper
from claimworlds.vocabularies import Vocabulary
from claimworlds.worlds import World
from samples import TRUTH

SMALL = Vocabulary(
    ("s", "t"),
    (
        ("a", (), "s"), ("b", (), "s"), ("f", ("s",), "s"), ("g", ("s", "t"), "s"),
        ("c", (), "t"), ("h", ("s",), "t"), ("k", ("t", "t"), "t"),
    ),
    (("r", ()), ("p", ("s",)), ("q", ("s", "t")), ("u", ("t", "t"))),
)
VARIABLES = (("X", "s"), ("Y", "s"), ("X", "t"), ("W", "t"))
NAMES = ("X", "Y", "W", "U", "V2")


class Chances:
    """Makes values of the vocabulary SMALL."""

    def __init__(self, seed):
        self.random = random.Random(seed)

    def term(self, sort, depth, variables=VARIABLES):
        free = [variable for variable in variables if variable[1] == sort]
        if free and (depth == 0 or self.random.random() < 0.35):
            return self.random.choice(free)
        rows = [row for row in SMALL.functions if row[2] == sort and (depth > 0 or not row[1])]
        row = self.random.choice(rows)
        return (row[0],) + tuple(self.term(wanted, depth - 1, variables) for wanted in row[1])

    def atom(self, depth, variables=VARIABLES):
        row = self.random.choice(SMALL.predicates)
        return (row[0],) + tuple(self.term(wanted, depth, variables) for wanted in row[1])

    def literal(self, depth, variables=VARIABLES):
        chance = self.random.random()
        positive = self.random.random() < 0.5
        if chance < 0.55:
            return (positive, self.atom(depth, variables), TRUTH)
        if chance < 0.6:
            return (positive, TRUTH, TRUTH)
        sort = self.random.choice(SMALL.sorts)
        return literal_of(positive, self.term(sort, depth, variables), self.term(sort, depth, variables))

    def clause(self, most, depth):
        return clause_of([self.literal(depth) for _ in range(self.random.randint(0, most))])

    def sentence(self, depth, bound=()):
        chance = self.random.random()
        if depth == 0 or chance < 0.1:
            return self.leaf(bound)
        if chance < 0.2:
            return ("not", self.sentence(depth - 1, bound))
        free = [name for name in NAMES if name not in [variable[0] for variable in bound]]
        if chance < 0.55 and free:
            variable = (self.random.choice(free), self.random.choice(SMALL.sorts))
            return (self.random.choice(["all", "some"]),) + variable + (self.sentence(depth - 1, bound + (variable,)),)
        word = self.random.choice(["and", "or", "implies", "iff"])
        return (word, self.sentence(depth - 1, bound), self.sentence(depth - 1, bound))

    def leaf(self, bound):
        chance = self.random.random()
        if chance < 0.12:
            return (self.random.choice(["true", "false"]),)
        if chance < 0.75:
            return ("atom", self.atom(1, bound))
        sort = self.random.choice(SMALL.sorts)
        return ("same", self.term(sort, 1, bound), self.term(sort, 1, bound))

    def world(self, most):
        sizes = {sort: self.random.randint(1, most) for sort in SMALL.sorts}
        tables = []
        for row in SMALL.functions + SMALL.predicates:
            count = 1
            for sort in row[1]:
                count *= sizes[sort]
            if len(row) == 3:
                tables.append([self.random.randrange(sizes[row[2]]) for _ in range(count)])
            else:
                tables.append([self.random.random() < 0.5 for _ in range(count)])
        return World(SMALL, list(sizes.values()), tables)

    def order(self):
        """The plain order, or one with other ranks and weights."""
        if self.random.random() < 0.4:
            return Order.plain(SMALL)
        names = [row[0] for row in SMALL.functions + SMALL.predicates]
        self.random.shuffle(names)
        return Order(names, [self.random.randint(1, 3) for _ in names])

    def paper(self, given, many):
        """A paper of so many steps, all of them allowed."""
        steps = []
        lines = []
        while len(steps) < many:
            step = self.step(given, lines)
            line = line_of(SMALL, given, lines, step)
            if line is not None:
                steps.append(step)
                lines.append(line)
        return Paper(steps)

    def step(self, given, lines):
        """A step behind these lines; it need not be allowed."""
        word = self.random.choice(["given"] * 4 + ["fill", "same", "either", "more", "drop", "drop"] + ["replace"] * 12)
        if word == "given":
            return (word, self.random.randrange(len(given)))
        if word == "same":
            return (word, self.term(self.random.choice(SMALL.sorts), 1))
        if word == "either":
            literal = self.literal(1)
            return (word, literal[1], literal[2])
        i = self.random.randrange(len(lines) + 1)
        if word == "fill":
            variables = self.random.sample(VARIABLES, self.random.randint(0, 3))
            return (word, i, tuple((variable, self.term(variable[1], 1)) for variable in variables))
        if word == "more":
            return (word, i, self.literal(1))
        if word == "drop":
            return (word, i, self.random.randrange(3))
        place = (self.random.randrange(2),) + self.random.choice([(), (), (0,), (1,), (0, 0)])
        j = self.random.randrange(len(lines) + 1)
        return (word, i, self.random.randrange(3), self.random.random() < 0.4, j, self.random.randrange(3), place)
