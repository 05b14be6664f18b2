"""Fillings: terms in the place of variables."""

from claimworlds.errors import FilledTwice
from claimworlds.terms import is_variable, subterms


class Filling:
    """Puts terms in the place of variables, all at once."""

    def __init__(self, pairs):
        filled = {}
        for variable, term in pairs:
            if variable in filled:
                raise FilledTwice(variable)
            filled[variable] = term
        changed = [variable for variable in filled if filled[variable] != variable]
        self.pairs = tuple([(variable, filled[variable]) for variable in sorted(changed)])
        self._filled = {variable: term for variable, term in self.pairs}

    def __call__(self, term):
        return filled_term(term, self._filled)

    def __rshift__(self, other):
        pairs = [(variable, filled_term(term, other._filled)) for variable, term in self.pairs]
        for variable, term in other.pairs:
            if variable not in self._filled:
                pairs.append((variable, term))
        return Filling(pairs)


def filled_term(term, filled):
    """The term with the terms of a dict in the place of its variables.

    The terms within are made from the last to the first, so the parts of each are ready when it is made.
    """
    made = []
    for part in reversed(subterms(term)):
        if is_variable(part):
            made.append(filled.get(part, part))
        else:
            whole = [part[0]]
            for _ in part[1:]:
                whole.append(made.pop())
            made.append(tuple(whole))
    return made.pop()


def fresh_filling(variables, start):
    """The filling that names variables anew, with numbers that count on from a start."""
    return Filling([(variable, ("Z" + str(start + k), variable[1])) for k, variable in enumerate(variables)])
