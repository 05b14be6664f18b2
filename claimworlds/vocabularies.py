"""Vocabularies: the sorts, functions and predicates of which sentences speak."""

from claimworlds.errors import BadName, NameTaken, NoSort
from claimworlds.names import is_name

TRUTH_SORT = "truth"


class Vocabulary:
    """Sorts, functions with their arguments and values, predicates with their arguments."""

    def __init__(self, sorts, functions, predicates):
        self.sorts = tuple(sorts)
        self.functions = tuple([(name, tuple(arguments), sort) for name, arguments, sort in functions])
        self.predicates = tuple([(name, tuple(arguments)) for name, arguments in predicates])
        rows = [(name, ()) for name in self.sorts]
        rows.extend([(name, arguments + (sort,)) for name, arguments, sort in self.functions])
        rows.extend(self.predicates)
        _check_rows(rows, self.sorts)
        self._names = {row[0]: True for row in rows}
        self._argument_sorts = {row[0]: row[1] for row in self.functions + self.predicates}
        value_sorts = {name: TRUTH_SORT for name, _ in self.predicates}
        for name, _, sort in self.functions:
            value_sorts[name] = sort
        self._value_sorts = value_sorts

    def __contains__(self, name):
        return name in self._names

    def arguments(self, name):
        """The sorts of the arguments of a function or predicate, or None."""
        return self._argument_sorts.get(name)

    def value_sort(self, name):
        """The sort of the value of a function, "truth" for a predicate, or None."""
        return self._value_sorts.get(name)

    def extended(self, functions):
        """A vocabulary that has further functions behind the others."""
        return Vocabulary(self.sorts, self.functions + tuple(functions), self.predicates)


def _check_rows(rows, sorts):
    """Refuses the first row of a name and the sorts it wants in which something is wrong."""
    taken = {}
    for name, wanted in rows:
        if not is_name(name):
            raise BadName(name)
        if name in taken:
            raise NameTaken(name)
        for sort in wanted:
            if sort not in sorts:
                raise NoSort(sort)
        taken[name] = True
