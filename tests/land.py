"""A small vocabulary with one sort, and short forms for its terms and clauses."""

from claimworlds.clausetexts import read_clause
from claimworlds.orders import Order
from claimworlds.termtexts import read_term
from claimworlds.vocabularies import Vocabulary

LAND = Vocabulary(
    ("s",), (("a", (), "s"), ("b", (), "s"), ("c", (), "s"), ("f", ("s",), "s"), ("g", ("s", "s"), "s")),
    (("r", ()), ("p", ("s",)), ("q", ("s", "s"))),
)
PLAIN = Order.plain(LAND)
TRUTH = ("true",)
X = ("X", "s")
Y = ("Y", "s")
Z = ("Z", "s")
A = ("a",)
B = ("b",)
C = ("c",)


def f(term):
    return ("f", term)


def g(one, two):
    return ("g", one, two)


def term(text):
    return read_term(LAND, text)


def clause(text):
    return read_clause(LAND, text)


def clauses(*texts):
    return [read_clause(LAND, text) for text in texts]


def literal(text):
    """The literal of a clause with exactly one."""
    (one,) = read_clause(LAND, text)
    return one
