"""Runs: clauses that are taken one after the other, and papers for everything that is done with them."""

from claimworlds.blocks import given_numbers, joined_steps, tautology_steps, unfolded_paper, wider_steps
from claimworlds.checking import all_lines
from claimworlds.choosing import clause_weight
from claimworlds.clauses import clause_key, is_clause, is_tautology
from claimworlds.endings import Ending
from claimworlds.errors import BadClause, NoClause, NotEnded, NotWaiting, RunOver
from claimworlds.helpers import Helpers
from claimworlds.insides import Goal
from claimworlds.marks import Marks, may_be_inside
from claimworlds.ports import Ports
from claimworlds.selecting import selected_index
from claimworlds.simplifying import simplified_by
from claimworlds.steppapers import step_paper
from claimworlds.stepping import Step, all_steps, steps_between
from claimworlds.terms import size_of

KINDS = ("reflect", "factor", "replace")


class Run:
    """Clauses with numbers and statuses.

    For each clause that was made there is its source: how it was made of clauses with lesser numbers. For each clause
    that was thrown, and each step between taken clauses, there are the steps of a cover. All of them refer to known
    clauses by their numbers, and `blocks` makes papers of them.
    """

    def __init__(self, vocabulary, order, selection, clauses, *, widest=8, largest=40):
        selected_index(order, selection, ())
        for index, clause in enumerate(clauses):
            if not is_clause(vocabulary, clause):
                raise BadClause(index)
        self.vocabulary = vocabulary
        self.order = order
        self.selection = selection
        self._widest = widest
        self._largest = largest
        self._clauses = []
        self._statuses = []
        self._given_numbers = []
        self._deeds = []
        self._takes = 0
        self._marks = Marks()
        self._clause_marks = []
        self._keys = []
        self._loads = []
        self._ports = {}
        self._sources = {}
        self._covers = {}
        self._reasons = {}
        for clause in clauses:
            self._enter_given(clause)

    @property
    def given(self):
        """The clauses that were passed to the constructor and to `give`."""
        return tuple([self._clauses[number] for number in self._given_numbers])

    @property
    def known(self):
        """All clauses, by number."""
        return tuple(self._clauses)

    @property
    def kept(self):
        """The numbers of the clauses that are not thrown."""
        return tuple([number for number, status in enumerate(self._statuses) if status != "thrown"])

    @property
    def taken(self):
        """The numbers of the taken clauses."""
        return tuple([number for number, status in enumerate(self._statuses) if status == "taken"])

    @property
    def takes(self):
        """How often a clause was taken."""
        return self._takes

    @property
    def word(self):
        """Whether the run is refuted, going, stuck or ended."""
        if () in self._clauses:
            return "refuted"
        if "waiting" in self._statuses:
            return "going"
        return "stuck" if "aside" in self._statuses else "ended"

    @property
    def deeds(self):
        """What was done."""
        return tuple(self._deeds)

    def status(self, number):
        """The status of the clause with a number."""
        self._check_number(number)
        return self._statuses[number]

    def numbers(self, status):
        """The numbers of the clauses with a status."""
        return tuple([number for number, own in enumerate(self._statuses) if own == status])

    def kept_clauses(self):
        """The clauses that are not thrown, in the order of their numbers."""
        return tuple([self._clauses[number] for number in self.kept])

    def taken_clauses(self):
        """The taken clauses, in the order of their numbers."""
        return tuple([self._clauses[number] for number in self.taken])

    def load_of(self, number):
        """The weight of the clause with a number."""
        return self._loads[number]

    def _check_number(self, number):
        """Refuses a number that no clause has."""
        if not 0 <= number < len(self._clauses):
            raise NoClause(number)

    def _enter(self, clause, status):
        """Gives a clause the next number, and returns it."""
        self._clauses.append(clause)
        self._statuses.append(status)
        self._clause_marks.append(self._marks.mark_of(clause))
        self._keys.append(clause_key(clause))
        self._loads.append(clause_weight(self.order, clause))
        return len(self._clauses) - 1

    def _enter_given(self, clause):
        """Enters a given clause, whatever its size, and returns its number."""
        number = self._enter(clause, "waiting")
        self._given_numbers.append(number)
        return number

    def give(self, clause):
        """Gives a further clause, and returns its number."""
        if not is_clause(self.vocabulary, clause):
            raise BadClause(len(self._clauses))
        self._deeds.append(("give", clause))
        return self._enter_given(clause)

    def take(self, number):
        """Takes a waiting clause, and returns the numbers of the clauses that were registered."""
        self._check_number(number)
        if self.word != "going":
            raise RunOver()
        if self._statuses[number] != "waiting":
            raise NotWaiting(number)
        self._deeds.append(("take", number))
        self._takes += 1
        begun = len(self._clauses)
        fresh = self._take_simplified(number)
        if fresh is not None and self._clauses[fresh] != ():
            if self._simplify_taken(fresh):
                self._make_steps(fresh)
        return tuple(range(begun, len(self._clauses)))

    def _take_simplified(self, number):
        """Rule 1: takes a clause or what it is simplified to, and returns the number of what is taken, or None."""
        numbers = self.taken
        clause = self._clauses[number]
        made = simplified_by(self._helpers(numbers), clause)
        if made.is_changed:
            self._statuses[number] = "thrown"
            fresh, steps = self._kept_result(made, numbers, ("simple", number), "taken")
            self._covers[number] = steps
            return fresh
        steps = self._steps_for(clause, number)
        if steps is not None:
            self._statuses[number] = "thrown"
            self._covers[number] = steps
            return None
        self._statuses[number] = "taken"
        return number

    def _simplify_taken(self, fresh):
        """Rule 3: throws the taken clauses that a fresh one makes needless; returns False if the take is over."""
        clause = self._clauses[fresh]
        helpers = Helpers(self.vocabulary, self.order, (clause,))
        begun = self.taken
        for number in begun:
            if number == fresh:
                continue
            goal = Goal(self.vocabulary, self._clauses[number])
            filling = self._inside(fresh, goal, self._clause_marks[number])
            if filling is not None:
                self._statuses[number] = "thrown"
                self._covers[number] = wider_steps(fresh, clause, filling, self._clauses[number])
                continue
            made = simplified_by(helpers, self._clauses[number])
            if made.is_changed:
                self._statuses[number] = "thrown"
                other, steps = self._kept_result(made, (fresh,), ("simple", number), None)
                self._covers[number] = steps
                if other is not None and made.result == ():
                    return False
        return True

    def _make_steps(self, fresh):
        """Rule 4: makes the steps between the taken clauses in which a fresh one takes part."""
        numbers = self.taken
        helpers = self._helpers(numbers)
        ports = [self._ports_of(number) for number in numbers]
        for step in steps_between(self.vocabulary, self.order, ports, numbers.index(fresh)):
            made = simplified_by(helpers, step.conclusion)
            address = _address_with(step.address, numbers)
            known_step = Step(address, step.conclusion, step.main, step.first, step.second)
            other, steps = self._kept_result(made, numbers, ("step", known_step), None)
            self._reasons[address] = steps
            if other is not None and made.result == ():
                return

    def _kept_result(self, made, numbers, source, status):
        """Registers what a clause was simplified to by the clauses with these numbers, unless it is needless.

        Returns the pair of its number, or None, and of the steps of a cover of the clause that was simplified.
        """
        number = None
        steps = self._steps_for(made.result, None)
        if steps is None:
            number = self._enter(made.result, status if status is not None else self._status_for(made.result))
            self._sources[number] = (made.forward.steps, numbers, source)
            steps = (("given", number),)
        return (number, joined_steps(made.backward.steps, numbers, steps))

    def _status_for(self, clause):
        """The status of a clause that is registered: aside if it is too large."""
        sizes = [size_of(side) for literal in clause for side in literal[1:]]
        is_small = len(clause) <= self._widest and all([size <= self._largest for size in sizes])
        return "waiting" if is_small else "aside"

    def _steps_for(self, clause, own):
        """The steps of a cover of a clause that is a tautology or has a known clause inside it; None if it is neither.

        For a known clause with its own number only other clauses that are kept are looked at.
        """
        if is_tautology(clause):
            return tautology_steps(clause)
        goal = Goal(self.vocabulary, clause)
        mark = self._marks.mark_of(clause)
        for number, status in enumerate(self._statuses):
            if own is None or (number != own and status != "thrown"):
                filling = self._inside(number, goal, mark)
                if filling is not None:
                    return wider_steps(number, self._clauses[number], filling, clause)
        return None

    def _inside(self, number, goal, mark):
        """The filling by which a known clause is inside a goal with a mark, or None."""
        if not may_be_inside(self._clause_marks[number], mark):
            return None
        return goal.filling_for(self._clauses[number], self._keys[number])

    def _helpers(self, numbers):
        """The clauses with these numbers as helpers."""
        return Helpers(self.vocabulary, self.order, [self._clauses[number] for number in numbers])

    def _ports_of(self, number):
        """The ports of a known clause."""
        if number not in self._ports:
            self._ports[number] = Ports(self.order, self.selection, self._clauses[number])
        return self._ports[number]

    def twin(self):
        """Another run in the same state."""
        other = Run(self.vocabulary, self.order, self.selection, (), widest=self._widest, largest=self._largest)
        other._clauses = list(self._clauses)
        other._statuses = list(self._statuses)
        other._given_numbers = list(self._given_numbers)
        other._deeds = list(self._deeds)
        other._takes = self._takes
        # The order in which bits are given has no say in what is found, so the marks may be shared.
        other._marks = self._marks
        other._clause_marks = list(self._clause_marks)
        other._keys = list(self._keys)
        other._loads = list(self._loads)
        other._ports = {number: self._ports[number] for number in self._ports}
        other._sources = {number: self._sources[number] for number in self._sources}
        other._covers = {number: self._covers[number] for number in self._covers}
        other._reasons = {address: self._reasons[address] for address in self._reasons}
        return other

    def paper_for(self, number):
        """A paper from the given clauses whose last line is the clause with a number."""
        self._check_number(number)
        blocks = {}
        waiting = [number]
        while waiting:
            other = waiting.pop()
            if other in self._sources and other not in blocks:
                blocks[other] = self._source_steps(other)
                waiting.extend(given_numbers(blocks[other]))
        leaves = {given: index for index, given in enumerate(self._given_numbers)}
        return unfolded_paper((("given", number),), blocks, leaves)

    def _source_steps(self, number):
        """The steps from known clauses whose last line is a clause that was registered."""
        forward, numbers, source = self._sources[number]
        if source[0] == "simple":
            return joined_steps(forward, numbers, (("given", source[1]),))
        return joined_steps(forward, numbers, step_paper(self.vocabulary, self._clauses, source[1]).steps)

    def cover_for(self, number):
        """A paper from the kept clauses that is a cover of the clause with a number."""
        self._check_number(number)
        return self._kept_paper((("given", number),))

    def _kept_paper(self, steps):
        """The paper from the kept clauses that steps from known clauses become."""
        return unfolded_paper(steps, self._covers, {number: index for index, number in enumerate(self.kept)})

    def all_reasons(self):
        """For each step between taken clauses its address and a cover of its conclusion from the kept clauses."""
        if self.word == "refuted":
            return self._reasons_of_refuted()
        indexes = {number: index for index, number in enumerate(self.taken)}
        rows = []
        for address in self._reasons:
            if address[1] in indexes and (address[0] != "replace" or address[4] in indexes):
                rows.append((KINDS.index(address[0]), _address_with(address, indexes), address))
        return tuple([(row[1], self._kept_paper(self._reasons[row[2]])) for row in sorted(rows)])

    def _reasons_of_refuted(self):
        """The reasons of a run that knows the empty clause: it may not have come to all steps, but this covers all."""
        empty = self._clauses.index(())
        found = []
        for step in all_steps(self.vocabulary, self.order, self.selection, self.taken_clauses()):
            steps = [("given", empty)]
            steps.extend([("more", line, literal) for line, literal in enumerate(step.conclusion)])
            found.append((step.address, self._kept_paper(steps)))
        return tuple(found)

    def carried(self, paper):
        """A paper from the kept clauses with the last line of a paper from the given clauses."""
        all_lines(self.vocabulary, self.given, paper)
        steps = []
        for step in paper.steps:
            steps.append(("given", self._given_numbers[step[1]]) if step[0] == "given" else step)
        return self._kept_paper(steps)

    def make_ending(self):
        """The ending of a run that ended."""
        if self.word != "ended":
            raise NotEnded()
        covers = [self.cover_for(number) for number in self._given_numbers]
        return Ending(self.order, self.selection, self.taken_clauses(), self.all_reasons(), covers)


def played_run(vocabulary, order, selection, clauses, deeds, *, widest=8, largest=40):
    """A new run on which these deeds were done."""
    run = Run(vocabulary, order, selection, clauses, widest=widest, largest=largest)
    for word, what in deeds:
        if word == "take":
            run.take(what)
        else:
            run.give(what)
    return run


def _address_with(address, numbers):
    """The address with other numbers for its clauses: `numbers` has the new one under each old one."""
    items = list(address)
    items[1] = numbers[items[1]]
    if items[0] == "replace":
        items[4] = numbers[items[4]]
    return tuple(items)
