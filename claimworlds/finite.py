"""Own worlds as worlds with tables."""

from claimworlds.terms import term_key
from claimworlds.tuples import all_tuples
from claimworlds.worlds import World

MOST_THINGS = 6


def finite_world(own):
    """The own world as a world, or None if it cannot be seen to be finite."""
    vocabulary = own.vocabulary
    values = {sort: own.values_of(sort) for sort in vocabulary.sorts}
    for sort in vocabulary.sorts:
        if not 1 <= len(values[sort]) <= MOST_THINGS:
            return None
    tables = []
    for row in vocabulary.functions + vocabulary.predicates:
        arguments = [values[sort] for sort in row[1]]
        # The last value of each sort is the heaviest.
        heaviest = (row[0],) + tuple([terms[-1] for terms in arguments])
        if own.ending.order.weight(heaviest) > own.most:
            return None
        ends = [own.value((row[0],) + parts) for parts in all_tuples(arguments)]
        tables.append([_thing(values, row, end) for end in ends])
    return World(vocabulary, [len(values[sort]) for sort in vocabulary.sorts], tables)


def _thing(values, row, end):
    """The number of a value of a function, or True or False for one of a predicate."""
    if len(row) == 2:
        return end == ("true",)
    keys = [term_key(term) for term in values[row[2]]]
    return keys.index(term_key(end))
