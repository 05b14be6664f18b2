"""Formulas and sentences."""

from claimworlds.fillings import filled_term
from claimworlds.names import is_variable_name
from claimworlds.terms import are_alike, is_atom, variables_of

TRUE = ("true",)
FALSE = ("false",)
TRUTH_WORDS = ("true", "false")
LEAVES = ("atom", "same")
CONNECTIVES = ("and", "or", "implies", "iff")
QUANTIFIERS = ("all", "some")


def is_formula(vocabulary, value):
    """True if the value is a formula of the vocabulary."""
    waiting = [value]
    while waiting:
        part = waiting.pop()
        if not _is_layer(vocabulary, part):
            return False
        waiting.extend(inner_formulas(part))
    return True


def _is_layer(vocabulary, value):
    """True if the value is a formula, whatever stands where it wants other formulas."""
    if not isinstance(value, tuple) or len(value) == 0:
        return False
    kind = value[0]
    if kind in TRUTH_WORDS:
        return len(value) == 1
    if kind == "atom":
        return len(value) == 2 and is_atom(vocabulary, value[1])
    if kind == "same":
        return len(value) == 3 and are_alike(vocabulary, value[1], value[2])
    if kind == "not":
        return len(value) == 2
    if kind in CONNECTIVES:
        return len(value) == 3
    if kind in QUANTIFIERS:
        return len(value) == 4 and is_variable_name(value[1]) and value[2] in vocabulary.sorts
    return False


def inner_formulas(formula):
    """The tuple of the formulas of which a formula is made, from left to right."""
    kind = formula[0]
    if kind in QUANTIFIERS:
        return formula[3:]
    return () if kind in LEAVES else formula[1:]


def subformulas(formula):
    """The list of the formula and all formulas in it: each before those in it, from left to right."""
    found = []
    waiting = [formula]
    while waiting:
        part = waiting.pop()
        found.append(part)
        waiting.extend(inner_formulas(part)[::-1])
    return found


def is_sentence(vocabulary, value):
    """True if the value is a formula in which nothing is free and no quantifier stands in one of the same name."""
    if not is_formula(vocabulary, value) or free_variables(value):
        return False
    waiting = [(value, ())]
    while waiting:
        part, names = waiting.pop()
        if part[0] in QUANTIFIERS:
            if part[1] in names:
                return False
            names = names + (part[1],)
        for inner in inner_formulas(part):
            waiting.append((inner, names))
    return True


def free_variables(formula):
    """The variables that occur free, each once, in the order of their first free occurrences."""
    found = {}
    waiting = [(formula, ())]
    while waiting:
        part, bound = waiting.pop()
        if part[0] in QUANTIFIERS:
            bound = bound + ((part[1], part[2]),)
        elif part[0] in LEAVES:
            for variable in _leaf_variables(part):
                if variable not in bound:
                    found[variable] = True
        for inner in reversed(inner_formulas(part)):
            waiting.append((inner, bound))
    return tuple(found)


def _leaf_variables(leaf):
    """The variables of an atom or an equation, from left to right."""
    found = []
    for term in leaf[1:]:
        found.extend(variables_of(term))
    return found


def denied_formula(formula):
    """The formula that says the opposite."""
    return ("not", formula)


def filled_formula(formula, filled):
    """The formula with the terms of a dict in the place of variables.

    Neither these variables nor those of the terms are bound in the formula.
    """
    if not filled:
        return formula
    marks = []
    for part in subformulas(formula):
        if part[0] in LEAVES:
            marks.append((part[:1] + tuple([filled_term(term, filled) for term in part[1:]]), 0))
        else:
            count = len(inner_formulas(part))
            marks.append((part[:len(part) - count], count))
    return joined_formula(marks)


def joined_formula(marks):
    """The formula of marks, pairs of the items ahead of the inner formulas and the number of these.

    The mark of each formula stands before those of its inner formulas, and these stand from left to right.
    """
    made = []
    for head, count in reversed(marks):
        inner = []
        for _ in range(count):
            inner.append(made.pop())
        made.append(head + tuple(inner))
    return made.pop()
