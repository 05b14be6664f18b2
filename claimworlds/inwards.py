"""Formulas without `implies` and `iff`, in which `not` stands only before atoms and equations."""

from claimworlds.formulas import FALSE, LEAVES, QUANTIFIERS, TRUE, TRUTH_WORDS, inner_formulas, subformulas


def both(one, two):
    """The formula that says that both hold."""
    if one == FALSE or two == FALSE:
        return FALSE
    if one == TRUE:
        return two
    return one if two == TRUE else ("and", one, two)


def either(one, two):
    """The formula that says that at least one holds."""
    if one == TRUE or two == TRUE:
        return TRUE
    if one == FALSE:
        return two
    return one if two == FALSE else ("or", one, two)


def inward_formula(formula):
    """The inward formula that says the same.

    For each formula within, from the last to the first, both results are made: for it and for the denied one.
    """
    made = []
    for part in reversed(subformulas(formula)):
        pairs = []
        for _ in inner_formulas(part):
            pairs.append(made.pop())
        made.append(_result_pair(part, pairs))
    return made.pop()[0]


def _result_pair(formula, pairs):
    """The results for a formula and for the denied one, from the pairs of results for its inner formulas."""
    kind = formula[0]
    if kind in TRUTH_WORDS:
        return (formula, FALSE if formula == TRUE else TRUE)
    if kind in LEAVES:
        return (formula, ("not", formula))
    held, denied = pairs[0]
    if kind == "not":
        return (denied, held)
    if kind in QUANTIFIERS:
        other = "some" if kind == "all" else "all"
        return (_quantified(kind, formula, held), _quantified(other, formula, denied))
    return _connected_pair(kind, pairs[0], pairs[1])


def _quantified(word, formula, inner):
    """The inner formula behind a word with the variable of a quantified formula; true and false stay alone."""
    if inner == TRUE or inner == FALSE:
        return inner
    return (word, formula[1], formula[2], inner)


def _connected_pair(kind, left, right):
    """The results for two formulas with a connective between them, and for the denied one."""
    if kind == "and":
        return (both(left[0], right[0]), either(left[1], right[1]))
    if kind == "or":
        return (either(left[0], right[0]), both(left[1], right[1]))
    if kind == "implies":
        return (either(left[1], right[0]), both(left[0], right[1]))
    held = both(either(left[1], right[0]), either(left[0], right[1]))
    return (held, both(either(left[0], right[0]), either(left[1], right[1])))
