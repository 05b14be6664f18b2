"""Helpers: clauses of one literal by which other clauses are made smaller."""

from claimworlds.clauses import clause_variables, literal_of
from claimworlds.fillings import filled_term
from claimworlds.matching import keeps_sorts, matched
from claimworlds.terms import is_variable, variables_of


class Rule:
    """A positive helper whose one side may be put in the place of the other one."""

    def __init__(self, index, left, right, is_sure):
        self.index = index
        self.left = left
        self.right = right
        # True if every filling puts `left` above `right`.
        self.is_sure = is_sure


class Use:
    """A helper and the dict by which it is filled, its filled literal, and for a rewriting the term that it puts."""

    def __init__(self, index, filled, literal, made):
        self.index = index
        self.filled = filled
        self.literal = literal
        self.made = made


class Helpers:
    """Clauses of which those with one literal can be looked up by the terms and literals that they are used on."""

    def __init__(self, vocabulary, order, clauses):
        self.vocabulary = vocabulary
        self.order = order
        self.count = len(clauses)
        self.rules = {}
        # The names with which the sides of rules begin, the empty string for variables.
        self.names = {}
        self.literals = {}
        for index, clause in enumerate(clauses):
            if len(clause) == 1:
                self._enter(index, clause[0])

    def _enter(self, index, literal):
        """Enters a helper for cuts and, if it is positive, for rewritings."""
        positive, one, two = literal
        name = _head(one) if _head(one) != "" else _head(two)
        self.literals.setdefault((positive, name), []).append((index, literal))
        if not positive:
            return
        count = len(clause_variables((literal,)))
        for left, right in ((one, two), (two, one)):
            word = self.order.compare(left, right)
            if word in ("above", "open") and len(variables_of(left)) == count:
                self.names[_head(left)] = True
                self.rules.setdefault(_rule_key(left), []).append(Rule(index, left, right, word == "above"))

    def rules_for(self, term):
        """The list of the rules that may fit a term that is no variable."""
        found = self.rules.get((term[0], ""), []) + self.rules.get(("", ""), [])
        key = _rule_key(term)
        return found if key[1] == "" else self.rules.get(key, []) + found

    def rewriting(self, rule, term):
        """The use of a rule at a term, or None."""
        filled = matched(rule.left, term, {})
        if filled is None or not keeps_sorts(self.vocabulary, filled):
            return None
        made = filled_term(rule.right, filled)
        if not rule.is_sure and self.order.compare(term, made) != "above":
            return None
        return Use(rule.index, filled, literal_of(True, term, made), made)

    def cut(self, literal):
        """The use of a helper whose filled literal is the opposite of a literal, or None."""
        positive, one, two = literal
        for name in (one[0], two[0], ""):
            for index, pattern in self.literals.get((not positive, name), []):
                for left, right in ((one, two), (two, one)):
                    filled = matched(pattern[1], left, {})
                    if filled is not None:
                        filled = matched(pattern[2], right, filled)
                    if filled is not None and keeps_sorts(self.vocabulary, filled):
                        return Use(index, filled, (not positive, one, two), None)
        return None


def _rule_key(term):
    """The names of a term and of its first part; the empty string for a variable and for no part."""
    if is_variable(term):
        return ("", "")
    return (term[0], _head(term[1]) if len(term) > 1 else "")


def _head(term):
    """The name with which a term begins; the empty string for a variable."""
    return "" if is_variable(term) else term[0]
