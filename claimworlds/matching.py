"""Matching: fillings that turn a pattern to a term."""

from claimworlds.fillings import Filling
from claimworlds.terms import are_same, is_variable, sort_of


def match_terms(pattern, term):
    """The filling of the pattern's variables that makes the term of it, or None."""
    filled = matched(pattern, term, {})
    return None if filled is None else Filling(list(filled.items()))


def matched(pattern, term, filled):
    """A dict with the terms of another one, and those of the pattern's variables by which it becomes the term.

    None if there is none. It has an entry for each variable of the pattern, also for those that stay.
    """
    if pattern[0] != term[0] and not is_variable(pattern):
        return None
    found = {variable: filled[variable] for variable in filled}
    waiting = [(pattern, term)]
    while waiting:
        part, wanted = waiting.pop()
        # A variable: only its name begins with a sign that stands before the small letters.
        if part[0] < "a":
            if part not in found:
                found[part] = wanted
            elif not are_same(found[part], wanted):
                return None
        elif part[0] != wanted[0]:
            return None
        elif len(part) > 1:
            waiting.extend(list(zip(part[1:], wanted[1:])))
    return found


def keeps_sorts(vocabulary, filled):
    """True if each term of a dict has the sort of its variable."""
    return all([sort_of(vocabulary, filled[variable]) == variable[1] for variable in filled])
