"""Texts of literals and clauses."""

from claimworlds.clauses import clause_of, literal_of_piece
from claimworlds.errors import BadText
from claimworlds.leafreading import EQUATION_SIGNS, built_leaf, leaf_mark
from claimworlds.termreading import term_heads
from claimworlds.terms import TRUTH
from claimworlds.termtexts import term_text
from claimworlds.tokens import Tokens

EMPTY_TEXT = "false"


def clause_text(clause):
    """The text of a clause: its literals in their order."""
    if not clause:
        return EMPTY_TEXT
    return " | ".join([literal_text(literal) for literal in clause])


def literal_text(literal):
    """The text of a literal."""
    positive, one, two = literal
    if two == TRUTH and one != TRUTH:
        return term_text(one) if positive else "not " + term_text(one)
    sign = "=" if positive else "!="
    return f"{term_text(one)} {sign} {term_text(two)}"


def read_clause(vocabulary, text):
    """The clause with this text."""
    marks = _clause_marks(Tokens(text))
    return clause_of([_built_literal(vocabulary, mark) for mark in marks])


def _clause_marks(tokens):
    """Round 2: the marks of the literals of a clause that takes all tokens."""
    marks = []
    if tokens.next_kind() == EMPTY_TEXT:
        tokens.take()
    else:
        marks.append(_literal_mark(tokens))
        while tokens.next_kind() == "|":
            tokens.take()
            marks.append(_literal_mark(tokens))
    tokens.want("end")
    return marks


def _literal_mark(tokens):
    """Round 2: "not" with the mark of the atom behind it, or "" with that of an atom or an equation.

    For the truth it is the sign between its two sides, with None.
    """
    if tokens.next_kind() == "not":
        tokens.take()
        if tokens.next_kind() != "name":
            raise BadText(tokens.next_column())
        return ("not", ("atom", term_heads(tokens, True)))
    if tokens.next_kind() != TRUTH[0]:
        return ("", leaf_mark(tokens, True))
    tokens.take()
    if tokens.next_kind() not in EQUATION_SIGNS:
        raise BadText(tokens.next_column())
    sign = tokens.take()[0]
    tokens.want(TRUTH[0])
    return (sign, None)


def _built_literal(vocabulary, mark):
    """Round 3: the literal with this mark."""
    word, leaf = mark
    if leaf is None:
        return (word == "=", TRUTH, TRUTH)
    piece = built_leaf(vocabulary, leaf, {})
    return literal_of_piece(("not", piece) if word == "not" else piece)
