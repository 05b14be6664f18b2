"""The own world of an ending by the words of points 70 and 71, told in the plainest way, to compare with."""

import itertools

from claimworlds.clauses import clause_variables, filled_literals
from claimworlds.fillings import Filling
from claimworlds.groundterms import ground_terms
from claimworlds.selecting import selected_index
from claimworlds.terms import is_atom, sort_of
from samples import TRUTH


class PlainWorld:

    def __init__(self, vocabulary, ending, most):
        self.vocabulary = vocabulary
        self.ending = ending
        self.order = ending.order
        self.rules = {}
        self.terms = []
        for term in ground_terms(vocabulary, self.order, most, atoms=True):
            self.terms.append(term)
            if all(self.value(part) == part for part in term[1:]):
                found = [other for clause in ending.clauses for other in self.candidates(clause, term)]
                if found:
                    least = found[0]
                    for other in found:
                        if self.order.compare_clauses(other[0], least[0]) == "below":
                            least = other
                    assert all(self.order.compare_clauses(least[0], other[0]) in ("below", "same") for other in found)
                    assert all(other[1] == least[1] for other in found if self.order.compare_clauses(other[0], least[0]) == "same")
                    self.rules[term] = least[1]

    def value(self, term):
        made = (term[0],) + tuple(self.value(part) for part in term[1:])
        return self.value(self.rules[made]) if made in self.rules else made

    def holds(self, literal):
        return (self.value(literal[1]) == self.value(literal[2])) == literal[0]

    def candidates(self, clause, u):
        """The pairs of the filled literals and `v` of all candidates for `u` of one clause."""
        if selected_index(self.order, self.ending.selection, clause) is not None:
            return
        variables = clause_variables(clause)
        rows = [[term for term in self.terms if sort_of(self.vocabulary, term) == sort and self.value(term) == term
                 and not is_atom(self.vocabulary, term)] for _, sort in variables]
        for chosen in itertools.product(*rows):
            literals = filled_literals(clause, Filling(list(zip(variables, chosen))))
            filling = Filling(list(zip(variables, chosen)))
            for a, literal in enumerate(clause):
                for s in (0, 1):
                    if literal[0] and filling(literal[1 + s]) == u and self.is_candidate(literals, a, u, filling(literal[2 - s])):
                        yield literals, filling(literal[2 - s])

    def is_candidate(self, literals, a, u, v):
        if self.order.compare(v, u) != "below":
            return False
        for k, other in enumerate(literals):
            if k == a:
                continue
            if self.order.compare_literals(other, literals[a]) != "below" or self.holds(other):
                return False
            for s in (0, 1):
                if other[0] and other[1 + s] == u and self.value(other[2 - s]) == self.value(v):
                    return False
        return True


def is_truth(value):
    return value == TRUTH
