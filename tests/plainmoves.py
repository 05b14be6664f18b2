"""The rewritings, cuts and clearings of point 57, told in the plainest way, to compare with."""

from claimworlds.clauses import clause_of, filled_clause, literal_of, opposite_literal
from claimworlds.fillings import Filling
from claimworlds.matching import matched
from claimworlds.terms import inner_places, part_at, put_at, sort_of, variables_of
from samples import TRUTH


def all_moves(vocabulary, order, helpers, clause):
    """The clauses that a clause becomes by one rewriting, cut or clearing."""
    found = [clause[:k] + clause[k + 1:] for k, (positive, one, two) in enumerate(clause) if not positive and one == two]
    for helper in helpers:
        if len(helper) == 1:
            found.extend(cuts(vocabulary, helper[0], clause))
            if helper[0][0]:
                found.extend(rewritings(vocabulary, order, helper, clause))
    return found


def fillings(vocabulary, pairs):
    """The one filling, in a list, that turns the first of each pair to the second; an empty list if there is none."""
    filled = {}
    for pattern, term in pairs:
        filled = None if filled is None else matched(pattern, term, filled)
    if filled is None or any(sort_of(vocabulary, term) != variable[1] for variable, term in filled.items()):
        return []
    return [Filling(list(filled.items()))]


def cuts(vocabulary, helper, clause):
    found = []
    for k, literal in enumerate(clause):
        _, one, two = opposite_literal(literal)
        for sides in ((one, two), (two, one)):
            if helper[0] != literal[0] and fillings(vocabulary, [(helper[1], sides[0]), (helper[2], sides[1])]):
                found.append(clause[:k] + clause[k + 1:])
    return found


def rewritings(vocabulary, order, helper, clause):
    found = []
    _, one, two = helper[0]
    variables = set(variables_of(one) + variables_of(two))
    for left, right in ((one, two), (two, one)):
        if not variables <= set(variables_of(left)) or (two == TRUTH and left != one):
            continue
        for k, literal in enumerate(clause):
            places = [(side,) + place for side in (0, 1) for place in inner_places(literal[side + 1])]
            for place in [(0,)] if two == TRUTH else places:
                for filling in fillings(vocabulary, [(left, part_at(literal[place[0] + 1], place[1:]))]):
                    is_lower = order.compare_clauses(filled_clause(helper, filling), clause) == "below"
                    if is_lower and order.compare(filling(left), filling(right)) == "above":
                        sides = list(literal[1:])
                        sides[place[0]] = put_at(sides[place[0]], place[1:], filling(right))
                        found.append(clause_of(clause[:k] + clause[k + 1:] + (literal_of(literal[0], *sides),)))
    return found


def reached(vocabulary, order, helpers, clause, most):
    """The set of all clauses that are reached from a clause; None if there are more than so many."""
    found = {clause}
    waiting = [clause]
    while waiting:
        for other in all_moves(vocabulary, order, helpers, waiting.pop()):
            if other not in found:
                found.add(other)
                waiting.append(other)
        if len(found) > most:
            return None
    return found
