"""The steps of points 53 and 54, told in the plainest way, to compare with."""

from claimworlds.clauses import clause_of, clause_variables, filled_literals, literal_of
from claimworlds.fillings import fresh_filling
from claimworlds.selecting import selected_index
from claimworlds.terms import is_variable, part_at, put_at, sort_of
from claimworlds.unifying import unify_terms
from samples import TRUTH

HIGH = ("above", "same")


def all_places(term, place):
    """The places in a side, also those of variables."""
    found = [place]
    if not is_variable(term):
        for number, part in enumerate(term[1:]):
            found.extend(all_places(part, place + (number,)))
    return found


def addresses(clauses):
    """All addresses that may be passed to `step_at`, in ascending order within each kind."""
    found = [("reflect", i, a) for i, clause in enumerate(clauses) for a in range(len(clause))]
    heads = [(i, a, s) for i, clause in enumerate(clauses) for a in range(len(clause)) for s in (0, 1)]
    for i, a, s in heads:
        found.extend([("factor", i, a, s, b, t) for b in range(len(clauses[i])) if b != a for t in (0, 1)])
    for head in heads:
        for j, clause in enumerate(clauses):
            for b, literal in enumerate(clause):
                for place in all_places(literal[1], (0,)) + all_places(literal[2], (1,)):
                    found.append(("replace",) + head + (j, b, place))
    return found


class PlainSteps:

    def __init__(self, vocabulary, order, selection, clauses):
        self.vocabulary = vocabulary
        self.order = order
        self.selection = selection
        self.clauses = clauses

    def at(self, address):
        """The conclusion of the step at an address, or None."""
        if address[0] == "reflect":
            return self.reflect(*address[1:])
        return self.factor(*address[1:]) if address[0] == "factor" else self.replace(*address[1:])

    def selected(self, i):
        return selected_index(self.order, self.selection, self.clauses[i])

    def any_other(self, literals, a, words):
        return any(self.order.compare_literals(literals[k], literals[a]) in words for k in range(len(literals)) if k != a)

    def common(self, one, two):
        if sort_of(self.vocabulary, one) != sort_of(self.vocabulary, two):
            return None
        return unify_terms(one, two)

    def reflect(self, i, a):
        clause = self.clauses[i]
        filling = self.common(clause[a][1], clause[a][2])
        if clause[a][0] or filling is None:
            return None
        filled = filled_literals(clause, filling)
        if self.selected(i) != a and (self.selected(i) is not None or self.any_other(filled, a, ["above"])):
            return None
        return conclusion([literal for literal in filled if literal != filled[a]])

    def factor(self, i, a, s, b, t):
        clause = self.clauses[i]
        filling = self.common(clause[a][1 + s], clause[b][1 + t])
        if not clause[a][0] or not clause[b][0] or filling is None or self.selected(i) is not None:
            return None
        filled = filled_literals(clause, filling)
        rest = filling(clause[a][2 - s])
        if self.any_other(filled, a, ["above"]) or self.order.compare(rest, filling(clause[a][1 + s])) in HIGH:
            return None
        fresh = literal_of(False, rest, filling(clause[b][2 - t]))
        return conclusion([literal for literal in filled if literal != filled[a]] + [filled[b], fresh])

    def replace(self, i, a, s, j, b, place):
        left, right = self.clauses[i], self.clauses[j]
        part = part_at(right[b][1 + place[0]], place[1:])
        if not left[a][0] or is_variable(part) or (left[a][2] == TRUTH and (s, place) != (0, (0,))):
            return None
        one = fresh_filling(clause_variables(left), 100)
        two = fresh_filling(clause_variables(right), 200)
        common = self.common(one(left[a][1 + s]), two(part))
        if common is None or self.selected(i) is not None:
            return None
        one, two = one >> common, two >> common
        ones, twos = filled_literals(left, one), filled_literals(right, two)
        rest, side, other = one(left[a][2 - s]), two(right[b][1 + place[0]]), two(right[b][2 - place[0]])
        if self.any_other(ones, a, HIGH) or self.order.compare(rest, one(left[a][1 + s])) in HIGH:
            return None
        if self.order.compare(other, side) in HIGH:
            return None
        if right[b][0]:
            if self.selected(j) is not None or self.any_other(twos, b, HIGH) or self.order.compare_literals(ones[a], twos[b]) in HIGH:
                return None
        elif self.selected(j) != b and (self.selected(j) is not None or self.any_other(twos, b, ["above"])):
            return None
        made = literal_of(right[b][0], put_at(side, place[1:], rest), other)
        literals = [literal for literal in ones if literal != ones[a]] + [literal for literal in twos if literal != twos[b]]
        return conclusion(literals + [made])


def conclusion(literals):
    return clause_of([literal for literal in literals if literal[0] or literal[1] != literal[2]])
