"""Clauses inside other clauses, and variants.

The search places the literals of one clause on different literals of the other. It always goes on with a literal
that has the fewest ways left, and turns back as soon as the places left are too few for the literals left.
A way is a pair: the index of a literal, and a dict of the terms for variables by which it is reached. Each term stands
there behind its key: terms may be nested far too deep for Python to compare them, but their keys are flat.
"""

from claimworlds.clauses import clause_key
from claimworlds.fillings import Filling
from claimworlds.matching import keeps_sorts, matched
from claimworlds.terms import TRUTH, are_same, is_variable, term_key


class Goal:
    """A clause in which others may be inside. It keeps the ways of literals, because others have the same ones."""

    def __init__(self, vocabulary, clause):
        self.vocabulary = vocabulary
        self.clause = clause
        self.ways = {}

    def filling_for(self, clause, key):
        """A filling by which a clause with this key is inside the goal, or None."""
        if len(clause) > len(self.clause):
            return None
        rows = []
        for literal, part_key in zip(clause, key):
            if part_key not in self.ways:
                self.ways[part_key] = self._ways_of(literal)
            rows.append(self.ways[part_key])
            if not rows[-1]:
                return None
        filled = _placed(rows, False)
        return None if filled is None else Filling([(variable, filled[variable][1]) for variable in filled])

    def _ways_of(self, literal):
        """The ways of a literal that keep the sorts; these can differ only where a side is a variable."""
        fillings = _fillings(literal, self.clause)
        if is_variable(literal[1]) or is_variable(literal[2]):
            fillings = [row for row in fillings if keeps_sorts(self.vocabulary, row[1])]
        return _ways(fillings)


def inside(vocabulary, one, two):
    """A filling by which a clause is inside another one, or None."""
    return Goal(vocabulary, two).filling_for(one, clause_key(one))


def are_variants(one, two):
    """True if a clause becomes another one by naming its variables anew."""
    return len(one) == len(two) and _placed([_ways(_fillings(literal, two)) for literal in one], True) is not None


def _ways(fillings):
    """The ways of a literal, from pairs of an index and a dict of terms without keys."""
    ways = []
    for place, filled in fillings:
        ways.append((place, {variable: (term_key(filled[variable]), filled[variable]) for variable in filled}))
    return ways


def _fillings(literal, clause):
    """The list of the pairs of an index and a dict of terms by which a literal becomes that literal of the clause.

    The sides of the literal may become those of the other one either way round.
    """
    positive, one, two = literal
    found = []
    for place, goal in enumerate(clause):
        if positive != goal[0] or (two == TRUTH) != (goal[2] == TRUTH):
            continue
        if two == TRUTH:
            turns = [matched(one, goal[1], {})]
        else:
            turns = [_both_matched(literal, goal[1], goal[2])]
            if turns[0] is None or not are_same(goal[1], goal[2]):
                turns.append(_both_matched(literal, goal[2], goal[1]))
        for filled in turns:
            if filled is not None:
                found.append((place, filled))
    return found


def _both_matched(literal, left, right):
    """A dict of terms for variables by which the two sides of a literal become two terms, or None."""
    filled = matched(literal[1], left, {})
    return None if filled is None else matched(literal[2], right, filled)


def _placed(rows, is_renaming):
    """A dict of terms by which there is a way for each row, to different places; None if there is none.

    If `is_renaming` is True, only different variables may stand in the place of different variables.
    """
    waiting = [({}, None, rows)]
    while waiting:
        filled, taken, rows = waiting.pop()
        if taken is not None or is_renaming:
            rows = [_ways_left(ways, taken, filled, is_renaming) for ways in rows]
        if not rows:
            return filled
        if _have_room(rows):
            least = _least_row(rows)
            rest = rows[:least] + rows[least + 1:]
            for place, more in reversed(rows[least]):
                waiting.append((_union(filled, more), place, rest))
    return None


def _ways_left(ways, taken, filled, is_renaming):
    """The ways that do not lead to a place that is taken and agree with the terms there are."""
    left = []
    for place, more in ways:
        if place != taken and _agree(filled, more):
            if not is_renaming or _renames(_union(filled, more)):
                left.append((place, more))
    return left


def _least_row(rows):
    """The index of a row with the fewest ways."""
    least = 0
    for index, ways in enumerate(rows):
        if len(ways) < len(rows[least]):
            least = index
    return least


def _have_room(rows):
    """True if there is a place of its own for each row, whatever the terms of the ways."""
    if not all(rows):
        return False
    holders = {}
    places = {}
    for index in range(len(rows)):
        if not _gets_place(rows, index, holders, places):
            return False
    return True


def _gets_place(rows, index, holders, places):
    """True if a row gets a place, perhaps that of another row which gets a new one.

    `holders` has the row for each place that is taken, `places` the place for each row that has one.
    """
    wanted = {}
    waiting = [index]
    while waiting:
        row = waiting.pop()
        for place, _ in rows[row]:
            if place in wanted:
                continue
            wanted[place] = row
            if place not in holders:
                _hand_over(place, wanted, holders, places)
                return True
            waiting.append(holders[place])
    return False


def _hand_over(place, wanted, holders, places):
    """Gives a place to the row that wants it, then the place that this row had to the row that wants that one."""
    while place is not None:
        row = wanted[place]
        left = places.get(row)
        holders[place] = row
        places[row] = place
        place = left


def _agree(one, two):
    """True if two dicts of terms have no variable with two terms."""
    for variable in two:
        if variable in one and one[variable][0] != two[variable][0]:
            return False
    return True


def _union(one, two):
    """The dict with the terms of both."""
    joined = {variable: one[variable] for variable in one}
    for variable in two:
        joined[variable] = two[variable]
    return joined


def _renames(filled):
    """True if different variables of the same sorts stand in the place of the variables."""
    taken = {}
    for variable in filled:
        term = filled[variable][1]
        if not is_variable(term) or term[1] != variable[1] or term in taken:
            return False
        taken[term] = True
    return True
