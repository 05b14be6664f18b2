"""The search for the rule of a ground term or atom in the own world of an ending."""

from claimworlds.clauses import clause_variables, literal_of
from claimworlds.dicts import with_entry
from claimworlds.fillings import filled_term
from claimworlds.matching import keeps_sorts, matched
from claimworlds.ports import Ports
from claimworlds.terms import are_same, variables_of


class Candidate:
    """A clause, by its index, that is filled and of which one literal may become a rule with this right side."""

    def __init__(self, index, filled, literals, right):
        self.index = index
        self.filled = filled
        self.literals = literals
        self.right = right


class Start:
    """A side of a positive literal of a clause, with which the search begins: `left` becomes a term or an atom.

    The variables of `left` come first, then those of `right`. Behind so many of its variables as `checks` tells each
    other literal can be compared.
    """

    def __init__(self, index, clause, number, side):
        self.index = index
        self.clause = clause
        self.left = clause[number][side + 1]
        self.right = clause[number][2 - side]
        self.variables = clause_variables(((True, self.left, self.right),) + clause)
        self.own_count = len(clause_variables(((True, self.left, self.right),)))
        self.checks = []
        counts = {variable: count + 1 for count, variable in enumerate(self.variables)}
        for other, literal in enumerate(clause):
            if other != number:
                needed = [counts[variable] for variable in clause_variables((literal,))]
                self.checks.append((max(needed + [self.own_count]), literal))


class RuleSearch:
    """Looks for candidates for terms and atoms in ascending order, with the rules found so far."""

    def __init__(self, vocabulary, ending, table):
        self.vocabulary = vocabulary
        self.order = ending.order
        self.table = table
        # For each sort the terms so far that are their own values.
        self.own_terms = {sort: [] for sort in vocabulary.sorts}
        self.starts = []
        for index, clause in enumerate(ending.clauses):
            for number, side in Ports(ending.order, ending.selection, clause).heads:
                self.starts.append(Start(index, clause, number, side))

    def best(self, term):
        """The candidate for a term or atom whose filled literals are the least, or None."""
        chosen = None
        for start in self.starts:
            for other in self._candidates(start, term):
                if chosen is None or self.order.compare_clauses(other.literals, chosen.literals) == "below":
                    chosen = other
        return chosen

    def _candidates(self, start, term):
        """The list of the candidates with `left` as this term."""
        found = []
        filled = matched(start.left, term, {})
        if filled is None or not keeps_sorts(self.vocabulary, filled) or not self._fits(start, term, filled):
            return found
        waiting = [filled]
        while waiting:
            filled = waiting.pop()
            if len(filled) == len(start.variables):
                found.append(self._candidate(start, filled))
                continue
            variable = start.variables[len(filled)]
            for other in self.own_terms[variable[1]]:
                more = with_entry(filled, variable, other)
                if self._fits(start, term, more):
                    waiting.append(more)
        return found

    def _candidate(self, start, filled):
        """The candidate of a start whose variables are all filled."""
        literals = [_filled_literal(literal, filled) for literal in start.clause]
        return Candidate(start.index, filled, literals, filled_term(start.right, filled))

    def _fits(self, start, term, filled):
        """True if nothing speaks against a start of which the first variables are filled.

        What could be compared with fewer variables was compared before, unless all variables of `left` came at once.
        """
        count = len(filled)
        is_begin = count == len(variables_of(start.left))
        right = filled_term(start.right, filled)
        if count >= start.own_count and (is_begin or count == start.own_count):
            if self.order.compare(right, term) != "below":
                return False
        head = literal_of(True, term, right)
        most = self.order.weight(term)
        for needed, literal in start.checks:
            other = _filled_literal(literal, filled)
            if count < needed:
                if self.order.weight(other[1]) > most or self.order.weight(other[2]) > most:
                    return False
            elif (is_begin or count == needed) and not self._is_lower(term, head, other):
                return False
        return True

    def _is_lower(self, term, head, other):
        """True if another filled literal stands below the one with the term, and leaves it to that one to hold."""
        if self.order.compare_literals(other, head) != "below" or self.table.makes_hold(other):
            return False
        _, one, two = head
        end = self.table.end_of(two if are_same(one, term) else one)
        for side, rest in ((other[1], other[2]), (other[2], other[1])):
            if other[0] and are_same(side, term) and are_same(self.table.end_of(rest), end):
                return False
        return True


def _filled_literal(literal, filled):
    """The filled literal, in order."""
    return literal_of(literal[0], filled_term(literal[1], filled), filled_term(literal[2], filled))
