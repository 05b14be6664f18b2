"""Ground terms in ascending order."""

from claimworlds.errors import TooMany
from claimworlds.vocabularies import TRUTH_SORT

MOST_TERMS = 400


def ground_terms(vocabulary, order, most, *, atoms=False):
    """Yields the ground terms, or the ground terms and atoms, that weigh at most so much, in ascending order."""
    for term in _all_terms(vocabulary, order, most, atoms):
        yield term


def _all_terms(vocabulary, order, most, atoms):
    """The list of these terms. Those of one weight come by the ranks of their names and then by their parts."""
    known = {sort: [] for sort in vocabulary.sorts}
    found = []
    for weight in range(1, most + 1):
        fresh = []
        for name, own_weight in zip(order.names, order.weights):
            sort = vocabulary.value_sort(name)
            if sort is None or (sort == TRUTH_SORT and not atoms):
                continue
            rows = [known[wanted] for wanted in vocabulary.arguments(name)]
            for parts in _part_tuples(rows, weight - own_weight, MOST_TERMS + 1 - len(found) - len(fresh)):
                fresh.append((sort, (name,) + parts))
            if len(found) + len(fresh) > MOST_TERMS:
                raise TooMany()
        for sort, term in fresh:
            found.append(term)
            if sort != TRUTH_SORT:
                known[sort].append((weight, term))
    return found


def _part_tuples(rows, weight, most):
    """The list of the tuples with one term from each row that together have this weight, ascending, up to so many.

    The rows have pairs of a weight and a term, ascending. Nothing is begun that the lightest terms would make too
    heavy, so about as many tuples are begun as there are terms.
    """
    found = []
    if not all(rows):
        return found
    least = [row[0][0] for row in rows]
    waiting = [((), weight)]
    while waiting and len(found) < most:
        parts, left = waiting.pop()
        if len(parts) < len(rows):
            free = left - sum(least[len(parts) + 1:])
            for load, term in reversed(rows[len(parts)]):
                if load <= free:
                    waiting.append((parts + (term,), left - load))
        elif left == 0:
            found.append(parts)
    return found
