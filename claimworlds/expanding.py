"""Worlds with tables for the witnesses of a clause form."""

from claimworlds.dicts import with_entry
from claimworlds.tuples import all_tuples
from claimworlds.worlds import World


def expanded_world(form, world):
    """The world of the form's vocabulary that has a table for each witness, too."""
    for witness in form.witnesses:
        world = _with_witness(world, witness)
    return World(form.vocabulary, world.sizes, world.tables)


def _with_witness(world, witness):
    """A world with the table of one witness more, behind those of the other functions."""
    name, guides, variable, formula = witness
    sorts = tuple([guide[1] for guide in guides])
    table = []
    for chosen in all_tuples([list(range(world.size(sort))) for sort in sorts]):
        things = {guide: thing for guide, thing in zip(guides, chosen)}
        table.append(_least_thing(world, formula, variable, things))
    vocabulary = world.vocabulary.extended([(name, sorts, variable[1])])
    count = len(world.vocabulary.functions)
    tables = world.tables[:count] + (tuple(table),) + world.tables[count:]
    return World(vocabulary, world.sizes, tables)


def _least_thing(world, formula, variable, things):
    """The least thing for which a formula holds if a variable stands for it, or 0."""
    for thing in range(world.size(variable[1])):
        if world.holds(formula, with_entry(things, variable, thing)):
            return thing
    return 0
