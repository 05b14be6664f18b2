"""The search for the rule of a ground term or atom in the own world of an ending."""

from claimworlds.clauses import clause_variables, literal_of
from claimworlds.dicts import with_entry
from claimworlds.fillings import filled_term
from claimworlds.matching import keeps_sorts, matched
from claimworlds.ports import Ports
from claimworlds.terms import are_same


class Candidate:
    """A clause, by its index, that is filled and of which one literal may become a rule with this right side."""

    def __init__(self, index, filled, literals, right):
        self.index = index
        self.filled = filled
        self.literals = literals
        self.right = right


class Group:
    """Literals with the variables that they share with one another, but not with other literals."""

    def __init__(self, literals, variables):
        self.literals = literals
        self.variables = variables
        self.rows = [(literal, clause_variables((literal,))) for literal in literals]


class Start:
    """A side of a positive literal of a clause, with which the search begins: `left` becomes a term or an atom."""

    def __init__(self, index, clause, number, side):
        self.index = index
        self.clause = clause
        self.left = clause[number][side + 1]
        self.right = clause[number][2 - side]
        self.variables = clause_variables(((True, self.left, self.right),))
        self.groups = _groups(clause[:number] + clause[number + 1:], self.variables)


class RuleSearch:
    """Looks for candidates for terms and atoms in ascending order, with the rules found so far."""

    def __init__(self, vocabulary, ending, table):
        self.vocabulary = vocabulary
        self.order = ending.order
        self.table = table
        # For each sort the terms so far that are their own values.
        self.own_terms = {sort: [] for sort in vocabulary.sorts}
        self.starts = []
        for index, clause in enumerate(ending.clauses):
            for number, side in Ports(ending.order, ending.selection, clause).heads:
                self.starts.append(Start(index, clause, number, side))

    def best(self, term):
        """The candidate for a term or atom whose filled literals are the least, or None."""
        chosen = None
        for start in self.starts:
            filled = matched(start.left, term, {})
            if filled is not None and keeps_sorts(self.vocabulary, filled):
                for head in self._longer(start.variables, filled):
                    other = self._candidate(start, term, head)
                    if other is not None and (chosen is None or self._is_less(other.literals, chosen.literals)):
                        chosen = other
        return chosen

    def _is_less(self, ones, twos):
        """True if a collection of literals is below another one."""
        return self.order.compare_clauses(ones, twos) == "below"

    def _longer(self, variables, filled):
        """The list of the dicts that have a term that is its own value for each further one of some variables, too."""
        found = [filled]
        for variable in variables:
            if variable not in filled:
                found = [with_entry(one, variable, term) for one in found for term in self.own_terms[variable[1]]]
        return found

    def _candidate(self, start, term, filled):
        """The least candidate with a filled head, or None.

        The literals of each group are compared by themselves: the least ones of all groups together are the least.
        """
        right = filled_term(start.right, filled)
        if self.order.compare(right, term) != "below":
            return None
        head = literal_of(True, term, right)
        for group in start.groups:
            filled = self._least(group, term, head, filled)
            if filled is None:
                return None
        return Candidate(start.index, filled, _filled_literals(start.clause, filled), right)

    def _least(self, group, term, head, filled):
        """The dict, with terms for the variables of a group, too, by which its literals are the least; or None."""
        chosen = None
        waiting = [(filled, 0)]
        while waiting:
            one, count = waiting.pop()
            if not self._fits(group, term, head, one):
                continue
            if count < len(group.variables):
                variable = group.variables[count]
                for other in reversed(self.own_terms[variable[1]]):
                    waiting.append((with_entry(one, variable, other), count + 1))
            elif chosen is None or self._is_less(
                    _filled_literals(group.literals, one), _filled_literals(group.literals, chosen)):
                chosen = one
        return chosen

    def _fits(self, group, term, head, filled):
        """True if nothing speaks against the literals of a group, of which some variables may not be filled yet."""
        most = self.order.weight(term)
        for literal, variables in group.rows:
            other = _filled_literal(literal, filled)
            if all([variable in filled for variable in variables]):
                if not self._is_lower(term, head, other):
                    return False
            elif self.order.weight(other[1]) > most or self.order.weight(other[2]) > most:
                return False
        return True

    def _is_lower(self, term, head, other):
        """True if another filled literal stands below the one with the term, and leaves it to that one to hold."""
        if self.order.compare_literals(other, head) != "below" or self.table.makes_hold(other):
            return False
        _, one, two = head
        end = self.table.end_of(two if are_same(one, term) else one)
        for side, rest in ((other[1], other[2]), (other[2], other[1])):
            if other[0] and are_same(side, term) and are_same(self.table.end_of(rest), end):
                return False
        return True


def _groups(literals, variables):
    """The list of the groups of literals; the variables that are told do not join two literals."""
    groups = []
    for literal in literals:
        own = [variable for variable in clause_variables((literal,)) if variable not in variables]
        joined = [group for group in groups if any([variable in group.variables for variable in own])]
        groups = [group for group in groups if not any([variable in group.variables for variable in own])]
        inner = [other for group in joined for other in group.literals] + [literal]
        groups.append(Group(inner, [variable for variable in clause_variables(inner) if variable not in variables]))
    return groups


def _filled_literal(literal, filled):
    """The filled literal, in order."""
    return literal_of(literal[0], filled_term(literal[1], filled), filled_term(literal[2], filled))


def _filled_literals(literals, filled):
    """The list of the filled literals, each in order."""
    return [_filled_literal(literal, filled) for literal in literals]
