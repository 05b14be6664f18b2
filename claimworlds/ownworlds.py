"""Own worlds of endings: each ground term has a value by rewriting rules."""

from claimworlds.errors import TooHeavy
from claimworlds.groundterms import ground_terms
from claimworlds.rulesearch import RuleSearch
from claimworlds.ruletables import RuleTable
from claimworlds.terms import sort_of, term_key
from claimworlds.vocabularies import TRUTH_SORT


class OwnWorld:
    """The rules of an ending for all ground terms and atoms up to a weight."""

    def __init__(self, vocabulary, ending, most):
        self.vocabulary = vocabulary
        self.ending = ending
        self.most = most
        self._table = RuleTable()
        self._search = RuleSearch(vocabulary, ending, self._table)
        self._chosen = {}
        terms = []
        for term in ground_terms(vocabulary, ending.order, most, atoms=True):
            terms.append(term)
        rules = []
        for term in terms:
            if self._table.has_own_parts(term):
                rules.extend(self._rules_for(term))
        self.rules = tuple(rules)

    def _rules_for(self, term):
        """The rule for a term or atom of own parts, in a list that is empty if there is none."""
        sort = sort_of(self.vocabulary, term)
        own_terms = [] if sort == TRUTH_SORT else self._search.own_terms[sort]
        own_terms.append(term)
        chosen = self._search.best(term)
        if chosen is None:
            return []
        own_terms.pop()
        self._table.enter(term, chosen.right)
        self._chosen[term_key(term)] = chosen
        return [(term, chosen.right)]

    def candidate_for(self, term):
        """The candidate of which the rule with this left side was made, or None."""
        return self._chosen.get(term_key(term))

    def value(self, term):
        """The value of a ground term or atom."""
        self._check_sides((term,))
        return self._table.end_of(term)

    def holds(self, clause):
        """True if a literal of a ground clause holds."""
        self._check_sides([side for literal in clause for side in literal[1:]])
        return any([self._table.makes_hold(literal) for literal in clause])

    def values_of(self, sort):
        """The terms of a sort that are their own values, in ascending order."""
        return tuple(self._search.own_terms[sort])

    def _check_sides(self, sides):
        """Refuses the first side that is too heavy."""
        for side in sides:
            load = self.ending.order.weight(side)
            if load > self.most:
                raise TooHeavy(load)
