"""Marks of clauses: numbers that tell at once of most clauses that one is not inside another one."""

from claimworlds.terms import is_variable, subterms

MOST_COUNTED = 12


class Marks:
    """Gives a bit to each name of a literal of one sign, to each name as part of another one, and so many times.

    Where a clause is inside another one, none of these stands oftener in it. So the bits of the one are bits of the
    other.
    """

    def __init__(self):
        self.bits = {}

    def mark_of(self, clause):
        """The number with the bits of a clause."""
        counts = {}
        for literal in clause:
            keys = [(literal[0], "")]
            for side in literal[1:]:
                for part in subterms(side):
                    keys.extend(_keys_of(literal[0], part))
            for key in keys:
                counts[key] = counts.get(key, 0) + 1
        mark = 0
        for key in counts:
            for count in range(min(counts[key], MOST_COUNTED)):
                mark = mark | 1 << self.bits.setdefault((key, count), len(self.bits))
        return mark


def _keys_of(positive, term):
    """The keys that a term in a literal of a sign counts for: its name, and each of its parts that has a name."""
    if is_variable(term):
        return []
    keys = [(positive, term[0])]
    for place, part in enumerate(term[1:]):
        if not is_variable(part):
            keys.append((positive, term[0], place, part[0]))
    return keys


def may_be_inside(one, two):
    """False if the clause with one mark is certainly not inside the clause with another one."""
    return one | two == two
