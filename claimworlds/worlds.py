"""Worlds: sorts of so many things, with tables for the functions and predicates."""

from claimworlds.clauses import clause_variables
from claimworlds.dicts import with_entry
from claimworlds.errors import BadSize, BadTable
from claimworlds.formulas import LEAVES, QUANTIFIERS, TRUTH_WORDS
from claimworlds.terms import TRUTH, is_variable, subterms
from claimworlds.wholes import is_index, is_whole


class World:
    """A size for each sort and a table for each function and predicate of a vocabulary."""

    def __init__(self, vocabulary, sizes, tables):
        self.vocabulary = vocabulary
        self.sizes = tuple(sizes)
        self.tables = tuple([tuple(table) for table in tables])
        _check_sizes(vocabulary.sorts, self.sizes)
        self._sort_sizes = {sort: size for sort, size in zip(vocabulary.sorts, self.sizes)}
        rows = list(vocabulary.functions + vocabulary.predicates)
        _check_tables(vocabulary, rows, self._sort_sizes, self.tables)
        self._values = {row[0]: table for row, table in zip(rows, self.tables)}
        self._argument_sizes = {row[0]: tuple([self._sort_sizes[sort] for sort in row[1]]) for row in rows}
        # The truth is looked up like a predicate without arguments.
        self._values[TRUTH[0]] = (True,)
        self._argument_sizes[TRUTH[0]] = ()

    def size(self, sort):
        """How many things a sort has."""
        return self._sort_sizes[sort]

    def value(self, term, things):
        """The thing that a term stands for, or the truth value of an atom or the truth."""
        made = []
        for part in reversed(subterms(term)):
            if is_variable(part):
                made.append(things[part])
            else:
                index = 0
                for size in self._argument_sizes[part[0]]:
                    index = index * size + made.pop()
                made.append(self._values[part[0]][index])
        return made.pop()

    def holds(self, formula, things):
        """True if a formula holds.

        `waiting` has the formulas that need the answer for one of their inner formulas, the outermost first.
        """
        waiting = []
        answer = self._first_answer(formula, things, waiting)
        while waiting:
            answer = self._next_answer(answer, waiting)
        return answer

    def _first_answer(self, formula, things, waiting):
        """Lets a formula and those at its beginning wait, and answers for the leaf that stands first in it."""
        while formula[0] not in LEAVES and formula[0] not in TRUTH_WORDS:
            if formula[0] in QUANTIFIERS:
                waiting.append((formula, things, 0))
                things = with_entry(things, (formula[1], formula[2]), 0)
                formula = formula[3]
            else:
                waiting.append((formula, things, None))
                formula = formula[1]
        if formula[0] == "atom":
            return self.value(formula[1], things)
        if formula[0] == "same":
            return self.value(formula[1], things) == self.value(formula[2], things)
        return formula == TRUTH

    def _next_answer(self, answer, waiting):
        """Gives the last formula that waits the answer for its inner formula; returns the answer that comes next."""
        formula, things, state = waiting.pop()
        kind = formula[0]
        if kind == "not":
            return not answer
        if kind in QUANTIFIERS:
            if answer == (kind == "some") or state + 1 == self.size(formula[2]):
                return answer
            waiting.append((formula, things, state + 1))
            inner = with_entry(things, (formula[1], formula[2]), state + 1)
            return self._first_answer(formula[3], inner, waiting)
        if kind == "iff":
            if state is not None:
                return answer == state
            waiting.append((formula, things, answer))
        elif answer == (kind == "or"):
            return kind != "and"
        return self._first_answer(formula[2], things, waiting)

    def literal_holds(self, literal, things):
        """True if the two sides of a literal have the same value, or for a negative one different values."""
        return (self.value(literal[1], things) == self.value(literal[2], things)) == literal[0]

    def clause_holds(self, clause, things):
        """True if at least one literal of a clause holds."""
        for literal in clause:
            if self.literal_holds(literal, things):
                return True
        return False

    def break_of(self, clause):
        """The least tuple of things of its variables at which a clause does not hold, or None.

        The things are chosen one after the other. A literal is looked at as soon as all its variables have things.
        """
        variables = clause_variables(clause)
        rows = [[] for _ in range(len(variables) + 1)]
        for literal in clause:
            rows[_things_needed(literal, variables)].append(literal)
        waiting = [()]
        while waiting:
            chosen = waiting.pop()
            things = {variable: thing for variable, thing in zip(variables, chosen)}
            if self.clause_holds(rows[len(chosen)], things):
                continue
            if len(chosen) == len(variables):
                return chosen
            for thing in reversed(range(self.size(variables[len(chosen)][1]))):
                waiting.append(chosen + (thing,))
        return None


def _check_sizes(sorts, sizes):
    """Refuses the first size that is not a whole number from 1 on."""
    for sort, size in zip(sorts, sizes):
        if not is_whole(size) or size < 1:
            raise BadSize(sort)


def _check_tables(vocabulary, rows, sort_sizes, tables):
    """Refuses the first table of the functions and predicates in these rows in which something is wrong."""
    for row, table in zip(rows, tables):
        count = 1
        for sort in row[1]:
            count *= sort_sizes[sort]
        if len(table) != count:
            raise BadTable(row[0])
        # A predicate has no size: its values are no things.
        size = sort_sizes.get(vocabulary.value_sort(row[0]))
        for value in table:
            if not _is_value(value, size):
                raise BadTable(row[0])


def _is_value(value, size):
    """True if a value is a thing of a sort with a size, or, where there is no size, True or False."""
    if size is None:
        return value is True or value is False
    return is_index(value, size)


def _things_needed(literal, variables):
    """How many of the variables, from the first on, must have things before a literal can be looked at."""
    needed = 0
    for variable in clause_variables((literal,)):
        needed = max(needed, variables.index(variable) + 1)
    return needed
