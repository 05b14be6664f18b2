"""The walk: from a refutation and a world to a given clause that does not hold in the world."""

from claimworlds.checking import refuting_lines
from claimworlds.clauses import clause_variables
from claimworlds.fillings import Filling
from claimworlds.terms import variables_of


def walk(vocabulary, given, paper, world):
    """The pair of the index of a given clause and the tuple of things of its variables at which it does not hold."""
    lines = refuting_lines(vocabulary, given, paper)
    number = len(lines) - 1
    things = {}
    while paper.steps[number][0] != "given":
        step = paper.steps[number]
        line = lines[step[1]]
        if step[0] == "fill":
            things = _filled_things(world, line, Filling(step[2]), things)
        if step[0] == "replace" and world.clause_holds(line, _full_things(clause_variables(line), things)):
            number = step[4]
        else:
            number = step[1]
    variables = clause_variables(lines[number])
    things = _full_things(variables, things)
    return (paper.steps[number][1], tuple([things[variable] for variable in variables]))


def _full_things(variables, things):
    """The things of some variables; a variable without a thing counts as the thing 0."""
    return {variable: things.get(variable, 0) for variable in variables}


def _filled_things(world, line, filling, things):
    """For each variable of a line the value of the term that a filling puts in its place."""
    found = {}
    for variable in clause_variables(line):
        term = filling(variable)
        found[variable] = world.value(term, _full_things(variables_of(term), things))
    return found
