"""Literals and clauses."""

from claimworlds.terms import TRUTH, are_alike, are_same, comes_before, is_atom, term_key, variables_of


def literal_of(positive, one, two):
    """The literal of two sides, put in order."""
    if one == TRUTH or (two != TRUTH and comes_before(one, two)):
        return (positive, two, one)
    return (positive, one, two)


def literal_of_piece(piece):
    """The literal of a formula that is an atom, an equation or a denied one of these; it need not be in order."""
    positive = piece[0] != "not"
    leaf = piece if positive else piece[1]
    return (positive, leaf[1], TRUTH if leaf[0] == "atom" else leaf[2])


def opposite_literal(literal):
    """The literal with the other sign."""
    return (not literal[0], literal[1], literal[2])


def clause_of(literals):
    """The clause of literals that need not be in order, sorted or different."""
    ordered = [literal_of(positive, one, two) for positive, one, two in literals]
    if len(ordered) < 2:
        return tuple(ordered)
    by_keys = {literal_key(literal): literal for literal in ordered}
    return tuple([by_keys[key] for key in sorted(by_keys)])


def literal_key(literal):
    """A key that equal literals share; the literals of a clause stand in the order of their keys."""
    return (term_key(literal[1]), term_key(literal[2]), literal[0])


def clause_key(clause):
    """A key that equal clauses share, and equal sequences of literals."""
    return tuple([literal_key(literal) for literal in clause])


def literal_index(clause, literal):
    """The index at which a literal stands in a clause, or None."""
    for index, other in enumerate(clause):
        if other[0] == literal[0] and are_same(other[1], literal[1]) and are_same(other[2], literal[2]):
            return index
    return None


def side_number(literal, term):
    """The number of the side of a literal that is this term: 0 for `one`, 1 for `two`."""
    return 0 if are_same(literal[1], term) else 1


def is_clause(vocabulary, value):
    """True if the value is a clause of the vocabulary."""
    if not isinstance(value, tuple) or not all([_is_literal(vocabulary, item) for item in value]):
        return False
    # Not the literals are compared, but their keys, for what stands in the literals may be nested very deep.
    keys = clause_key(value)
    return all([keys[index] < keys[index + 1] for index in range(len(keys) - 1)])


def _is_literal(vocabulary, value):
    """True if the value is a literal in order, as it may stand in a clause of the vocabulary."""
    if not isinstance(value, tuple) or len(value) != 3 or not (value[0] is True or value[0] is False):
        return False
    _, one, two = value
    if two == TRUTH:
        return one == TRUTH or is_atom(vocabulary, one)
    return are_alike(vocabulary, one, two) and not comes_before(one, two)


def clause_variables(clause):
    """The variables of a clause, each once, in the order of their first occurrences."""
    found = {}
    for literal in clause:
        for variable in variables_of(literal[1]) + variables_of(literal[2]):
            found[variable] = True
    return tuple(found)


def filled_literals(literals, filling):
    """The filled literals, each in order, as many as there were and one for each."""
    return tuple([literal_of(positive, filling(one), filling(two)) for positive, one, two in literals])


def filled_clause(clause, filling):
    """The clause of the filled literals."""
    return clause_of(filled_literals(clause, filling))


def is_tautology(clause):
    """True if a clause holds by two equal sides or by a literal beside its opposite."""
    for literal in clause:
        if literal[0] and are_same(literal[1], literal[2]):
            return True
    keys = {literal_key(literal): True for literal in clause}
    return len(keys) > len({key[:2]: True for key in keys})
