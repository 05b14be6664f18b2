"""Rules of ground terms and atoms, and the values that they give."""

from claimworlds.terms import are_same, subterms, term_key


class RuleTable:
    """For the left side of each rule the value of its right side."""

    def __init__(self):
        self.ends = {}

    def enter(self, left, right):
        """Enters a rule. The rules for all that is below its left side are there already."""
        self.ends[term_key(left)] = self.end_of(right)

    def end_of(self, term):
        """The value of a ground term, an atom or the truth by the rules so far."""
        made = []
        for part in reversed(subterms(term)):
            whole = [part[0]]
            for _ in part[1:]:
                whole.append(made.pop())
            term = tuple(whole)
            made.append(self.ends.get(term_key(term), term))
        return made.pop()

    def has_own_parts(self, term):
        """True if each part of a term is its own value."""
        return all([are_same(part, self.end_of(part)) for part in term[1:]])

    def makes_hold(self, literal):
        """True if a ground literal holds."""
        return literal[0] == are_same(self.end_of(literal[1]), self.end_of(literal[2]))
