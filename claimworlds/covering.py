"""Leaves of lines, and covers: papers that use nothing above the clause that they end with.

While leaves are collected, they stand in a dict under keys that equal leaves share.
"""

from claimworlds.checking import all_lines
from claimworlds.clauses import clause_key, filled_literals
from claimworlds.errors import BadStep
from claimworlds.fillings import Filling
from claimworlds.papers import lines_used, needed_lines


def all_leaves(vocabulary, given, paper):
    """The tuple of the tuples of the leaves of all lines."""
    all_lines(vocabulary, given, paper)
    tables = []
    for step in paper.steps:
        table = {}
        for number in lines_used(step):
            for key, leaf in tables[number].items():
                table.setdefault(key, leaf)
        tables.append(_leaf_table(given, step, list(table.values())) if step[0] in ("given", "fill") else table)
    return tuple([tuple(table.values()) for table in tables])


def is_cover(vocabulary, order, given, paper, goal):
    """True if a paper is a cover of a clause."""
    try:
        lines = all_lines(vocabulary, given, paper)
    except BadStep:
        return False
    if not lines or clause_key(lines[-1]) != clause_key(goal):
        return False
    for leaf in _last_leaves(given, paper.steps):
        if order.compare_clauses(leaf, goal) not in ("below", "same"):
            return False
    return True


def _leaf_table(given, step, leaves):
    """The leaves of a given step, or of a fill step whose line `i` has these leaves."""
    if step[0] == "given":
        made = [given[step[1]]]
    else:
        filling = Filling(step[2])
        made = [filled_literals(leaf, filling) for leaf in leaves]
    table = {}
    for leaf in made:
        table.setdefault(clause_key(leaf), leaf)
    return table


def _last_leaves(given, steps):
    """The list of the leaves of the last line.

    A long paper may have many leaves at each line. So only the leaves of given and fill steps are made, and for the
    others is looked where their leaves come from.
    """
    tables = {}
    for number in needed_lines(steps):
        step = steps[number]
        if step[0] == "given":
            tables[number] = _leaf_table(given, step, [])
        elif step[0] == "fill":
            tables[number] = _leaf_table(given, step, _leaves_of_line(steps, tables, step[1]))
    return _leaves_of_line(steps, tables, len(steps) - 1)


def _leaves_of_line(steps, tables, start):
    """The list of the leaves of a line, from the tables of the given and fill steps."""
    found = {}
    seen = {}
    waiting = [start]
    while waiting:
        number = waiting.pop()
        if number in seen:
            continue
        seen[number] = True
        if number in tables:
            for key, leaf in tables[number].items():
                found.setdefault(key, leaf)
        else:
            waiting.extend(lines_used(steps[number])[::-1])
    return list(found.values())
