"""Vocabularies, terms and short forms that several tests use."""

from claimworlds.clauses import clause_of, literal_of
from claimworlds.termtexts import read_term
from claimworlds.vocabularies import Vocabulary

GRAPH = Vocabulary(
    ("node", "edge"),
    (
        ("root", (), "node"),
        ("leaf", (), "node"),
        ("next", ("node",), "node"),
        ("join", ("node", "node"), "node"),
        ("loop", (), "edge"),
        ("arc", ("node", "node"), "edge"),
        ("trip", ("node", "edge", "node"), "node"),
    ),
    (
        ("rain", ()),
        ("lit", ("node",)),
        ("free", ("edge",)),
        ("link", ("node", "edge")),
        ("past", ("node", "node")),
    ),
)

TRUTH = ("true",)
ROOT = ("root",)
LEAF = ("leaf",)
LOOP = ("loop",)
X = ("X", "node")
Y = ("Y", "node")
Z = ("Z", "node")
E = ("E", "edge")
F = ("F", "edge")


def next_of(term):
    return ("next", term)


def join(one, two):
    return ("join", one, two)


def term(text):
    """The term of the vocabulary with this text."""
    return read_term(GRAPH, text)


def lit(part):
    """The literal that says that a node is lit."""
    return (True, ("lit", part), TRUTH)


def dark(part):
    """The literal that says that a node is not lit."""
    return (False, ("lit", part), TRUTH)


def past(one, two):
    return (True, ("past", one, two), TRUTH)


def same(one, two):
    return literal_of(True, one, two)


def other(one, two):
    return literal_of(False, one, two)


def clause(*literals):
    return clause_of(literals)


def deep_term(depth, made=ROOT):
    """A term that is nested so deep, around a root or another term."""
    for _ in range(depth):
        made = next_of(made)
    return made
