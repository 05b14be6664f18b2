"""Texts of literals and clauses."""

from claimworlds.clauses import clause_of
from claimworlds.errors import BadText, WrongSort
from claimworlds.formulareading import EQUATION_SIGNS
from claimworlds.termreading import built_atom, built_term, term_heads
from claimworlds.terms import TRUTH, sort_of
from claimworlds.termtexts import term_text
from claimworlds.tokens import Tokens

EMPTY_TEXT = "false"


def clause_text(clause):
    """The text of a clause: its literals in their order."""
    if not clause:
        return EMPTY_TEXT
    return " | ".join([literal_text(literal) for literal in clause])


def literal_text(literal):
    """The text of a literal."""
    positive, one, two = literal
    if two == TRUTH and one != TRUTH:
        return term_text(one) if positive else "not " + term_text(one)
    sign = "=" if positive else "!="
    return f"{term_text(one)} {sign} {term_text(two)}"


def read_clause(vocabulary, text):
    """The clause with this text."""
    marks = _clause_marks(Tokens(text))
    return clause_of([_built_literal(vocabulary, mark) for mark in marks])


def _clause_marks(tokens):
    """Round 2: the marks of the literals of a clause that takes all tokens.

    A mark is a triple: the word or sign of the literal ("atom" for an atom alone), and the heads of its two sides.
    """
    marks = []
    if tokens.next_kind() == EMPTY_TEXT:
        tokens.take()
    else:
        marks.append(_literal_mark(tokens))
        while tokens.next_kind() == "|":
            tokens.take()
            marks.append(_literal_mark(tokens))
    tokens.want("end")
    return marks


def _literal_mark(tokens):
    """Round 2: the mark of one literal."""
    if tokens.next_kind() == "not":
        tokens.take()
        if tokens.next_kind() != "name":
            raise BadText(tokens.next_column())
        return ("not", term_heads(tokens, True), None)
    if tokens.next_kind() == TRUTH[0]:
        tokens.take()
        if tokens.next_kind() not in EQUATION_SIGNS:
            raise BadText(tokens.next_column())
        sign = tokens.take()[0]
        tokens.want(TRUTH[0])
        return (sign, None, None)
    left = term_heads(tokens, True)
    if tokens.next_kind() in EQUATION_SIGNS:
        return (tokens.take()[0], left, term_heads(tokens, True))
    if left[0].is_variable:
        raise BadText(tokens.next_column())
    return ("atom", left, None)


def _built_literal(vocabulary, mark):
    """Round 3: the literal with this mark."""
    kind, left, right = mark
    if left is None:
        return (kind == "=", TRUTH, TRUTH)
    if right is None:
        return (kind == "atom", built_atom(vocabulary, left, {}), TRUTH)
    one = built_term(vocabulary, left, {})
    two = built_term(vocabulary, right, {})
    if sort_of(vocabulary, one) != sort_of(vocabulary, two):
        raise WrongSort(right[0].column)
    return (kind == "=", one, two)
