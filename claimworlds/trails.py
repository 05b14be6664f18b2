"""Trails: the rewritings, cuts and clearings by which a clause is made smaller."""

from claimworlds.clauses import clause_of, is_tautology, literal_index, literal_key, literal_of, side_number
from claimworlds.scanning import Scan
from claimworlds.terms import TRUTH, are_same, put_at


class Move:
    """One rewriting, cut or clearing: the clauses before and after it, and what it does to the literal at an index.

    `use` is the use of a helper, None for a clearing. `made` is the literal that a rewriting makes, otherwise None.
    """

    def __init__(self, before, after, index, made, use):
        self.before = before
        self.after = after
        self.index = index
        self.made = made
        self.use = use
        # For a rewriting: whether it goes from `two` of the helper to `one`, and the places in both literals.
        self.turned = False
        self.place = ()
        self.made_place = ()


class Trail:
    """A clause on its way to one that is a tautology or clear, with the moves so far.

    A term in which nothing can be rewritten stays so: a helper that is not below a clause is not below a smaller one.
    """

    def __init__(self, helpers, clause):
        self.helpers = helpers
        self.clause = clause
        self.moves = []
        self.settled = {}

    def go(self):
        """Makes moves as long as there are some."""
        if is_tautology(self.clause):
            return
        begun = self.clause
        for literal in begun:
            if _is_void(literal):
                self._leave_out(literal, None)
        begun = self.clause
        for literal in begun:
            self._cut(literal)
        if not self.helpers.names:
            return
        literal = self._next_literal()
        while literal is not None:
            self._rewrite(literal)
            literal = self._next_literal()

    def _next_literal(self):
        """The first literal that was not looked at yet; None if there is none or the clause became a tautology."""
        if self.moves and is_tautology(self.clause):
            return None
        for literal in self.clause:
            if literal_key(literal) not in self.settled:
                return literal
        return None

    def _leave_out(self, literal, use):
        """Records a clearing or a cut."""
        index = literal_index(self.clause, literal)
        after = self.clause[:index] + self.clause[index + 1:]
        self.moves.append(Move(self.clause, after, index, None, use))
        self.clause = after

    def _cut(self, literal):
        """Cuts a literal if a helper allows it."""
        use = self.helpers.cut(literal)
        if use is not None:
            self._leave_out(literal, use)

    def _rewrite(self, literal):
        """Rewrites both sides of a literal until nothing is left to rewrite, or the literal is gone."""
        sides = [literal[1], literal[2]]
        for number in (0, 1):
            scan = Scan(sides[number], self.helpers.names)
            while scan.current is not None:
                found = self._rewriting(literal, scan)
                if found is None:
                    scan.leave()
                    continue
                use, rule = found
                literal = self._put(literal, sides, number, scan, use)
                if literal is None:
                    return
                scan.put(rule.right, use.filled)
        self.settled[literal_key(literal)] = True
        self._cut(literal)

    def _rewriting(self, literal, scan):
        """The pair of a use and the rule by which the current term of a literal may be rewritten, or None.

        A helper that is used within a side, or in a negative literal, is below the clause because of this literal. An
        atom in a negative literal is left to a cut.
        """
        for rule in self.helpers.rules_for(scan.current):
            if rule.right == TRUTH and not literal[0]:
                continue
            use = self.helpers.rewriting(rule, scan.current)
            if use is not None and (scan.frames or not literal[0] or self._is_above(use.literal)):
                return (use, rule)
        return None

    def _is_above(self, literal):
        """True if a literal that stands alone in a clause is below the clause on the trail."""
        return self.helpers.order.compare_clauses((literal,), self.clause) == "below"

    def _put(self, literal, sides, number, scan, use):
        """Records a rewriting, and returns the new literal; None if it is gone or holds by itself."""
        old = sides[number]
        sides[number] = put_at(old, scan.current_place(), use.made)
        made = literal_of(literal[0], sides[0], sides[1])
        index = literal_index(self.clause, literal)
        after = clause_of(self.clause[:index] + self.clause[index + 1:] + (made,))
        move = Move(self.clause, after, index, made, use)
        move.turned = not are_same(use.literal[1], scan.current)
        move.place = (side_number(literal, old),) + scan.current_place()
        move.made_place = (side_number(made, sides[number]),) + scan.current_place()
        self.moves.append(move)
        is_merged = len(after) < len(self.clause)
        self.clause = after
        if _is_void(made):
            self._leave_out(made, None)
        return None if is_merged or are_same(made[1], made[2]) else made


def _is_void(literal):
    """True for a negative literal with two equal sides."""
    return not literal[0] and are_same(literal[1], literal[2])

