"""Rounds 2 and 3 of reading atoms and equations, of which sentences and clauses are made."""

from claimworlds.errors import BadText, WrongSort
from claimworlds.termreading import built_atom, built_term, term_heads
from claimworlds.terms import sort_of

EQUATION_SIGNS = ("=", "!=")


def leaf_mark(tokens, sorted_variables):
    """Round 2: the mark of an atom or an equation: its sign ("atom" if it has none), and the heads of its terms."""
    left = term_heads(tokens, sorted_variables)
    if tokens.next_kind() in EQUATION_SIGNS:
        return (tokens.take()[0], left, term_heads(tokens, sorted_variables))
    if left[0].is_variable:
        raise BadText(tokens.next_column())
    return ("atom", left)


def built_leaf(vocabulary, mark, bound):
    """Round 3: the formula with this mark: an atom, an equation or a denied equation."""
    if mark[0] == "atom":
        return ("atom", built_atom(vocabulary, mark[1], bound))
    one = built_term(vocabulary, mark[1], bound)
    two = built_term(vocabulary, mark[2], bound)
    if sort_of(vocabulary, one) != sort_of(vocabulary, two):
        raise WrongSort(mark[2][0].column)
    equation = ("same", one, two)
    return equation if mark[0] == "=" else ("not", equation)
