"""A run that keeps to the words of points 59 to 62, told in the plainest way, to compare with."""

from claimworlds.clauses import is_tautology
from claimworlds.insides import inside
from claimworlds.simplifying import simplify
from claimworlds.stepping import steps_with
from claimworlds.terms import size_of


class PlainRun:

    def __init__(self, vocabulary, order, selection, clauses, widest, largest):
        self.vocabulary = vocabulary
        self.order = order
        self.selection = selection
        self.bounds = (widest, largest)
        self.clauses = list(clauses)
        self.statuses = ["waiting"] * len(self.clauses)
        self.over = False

    def taken(self):
        return [number for number, status in enumerate(self.statuses) if status == "taken"]

    def simple(self, clause, helpers):
        return simplify(self.vocabulary, self.order, helpers, clause).result

    def helpers(self):
        return [self.clauses[number] for number in self.taken()]

    def is_inside(self, one, two):
        return inside(self.vocabulary, one, two) is not None

    def is_needless(self, clause):
        return is_tautology(clause) or any(self.is_inside(known, clause) for known in self.clauses)

    def enter(self, clause, status=None):
        large = len(clause) > self.bounds[0] or any(size_of(side) > self.bounds[1] for row in clause for side in row[1:])
        self.clauses.append(clause)
        self.statuses.append(status or ("aside" if large else "waiting"))
        self.over = clause == ()

    def give(self, clause):
        self.clauses.append(clause)
        self.statuses.append("waiting")

    def take(self, number):
        begun = len(self.clauses)
        self.over = False
        fresh = self.rule_one(number)
        if fresh is not None and self.clauses[fresh] != ():
            self.rule_three(fresh)
            if not self.over:
                self.rule_four(fresh)
        return tuple(range(begun, len(self.clauses)))

    def rule_one(self, number):
        clause = self.clauses[number]
        result = self.simple(clause, self.helpers())
        if result == clause:
            others = [k for k, status in enumerate(self.statuses) if status != "thrown" and k != number]
            if is_tautology(clause) or any(self.is_inside(self.clauses[k], clause) for k in others):
                self.statuses[number] = "thrown"
                return None
            self.statuses[number] = "taken"
            return number
        self.statuses[number] = "thrown"
        if self.is_needless(result):
            return None
        self.enter(result, "taken")
        return len(self.clauses) - 1

    def rule_three(self, fresh):
        for number in self.taken():
            if number == fresh or self.over:
                continue
            if self.is_inside(self.clauses[fresh], self.clauses[number]):
                self.statuses[number] = "thrown"
                continue
            result = self.simple(self.clauses[number], [self.clauses[fresh]])
            if result != self.clauses[number]:
                self.statuses[number] = "thrown"
                if not self.is_needless(result):
                    self.enter(result)

    def rule_four(self, fresh):
        taken = self.helpers()
        for step in steps_with(self.vocabulary, self.order, self.selection, taken, self.taken().index(fresh)):
            result = self.simple(step.conclusion, taken)
            if not self.over and not self.is_needless(result):
                self.enter(result)
