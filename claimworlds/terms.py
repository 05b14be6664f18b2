"""Terms, atoms and the truth: what they are, their parts and places."""

from claimworlds.errors import BadPlace
from claimworlds.names import is_variable_name
from claimworlds.vocabularies import TRUTH_SORT

TRUTH = ("true",)


def is_variable(term):
    """True if a term, an atom or the truth is a variable."""
    return "A" <= term[0][0] <= "Z"


def is_term(vocabulary, value):
    """True if the value is a term of the vocabulary."""
    sort = _layer_sort(vocabulary, value)
    return sort is not None and sort != TRUTH_SORT and _parts_fit(vocabulary, value)


def is_atom(vocabulary, value):
    """True if the value is an atom of the vocabulary."""
    return _layer_sort(vocabulary, value) == TRUTH_SORT and _parts_fit(vocabulary, value)


def _layer_sort(vocabulary, value):
    """The sort of a term or atom, whatever stands in the place of its parts; None if it is neither."""
    if not isinstance(value, tuple) or len(value) == 0 or not isinstance(value[0], str):
        return None
    arguments = vocabulary.arguments(value[0])
    if arguments is not None:
        return vocabulary.value_sort(value[0]) if len(value) == len(arguments) + 1 else None
    if is_variable_name(value[0]) and len(value) == 2 and value[1] in vocabulary.sorts:
        return value[1]
    return None


def _parts_fit(vocabulary, term):
    """True if the parts of a term or atom, and all parts of these, are terms of the wanted sorts."""
    waiting = [term]
    while waiting:
        part = waiting.pop()
        if not is_variable(part):
            for inner, wanted in zip(part[1:], vocabulary.arguments(part[0])):
                if _layer_sort(vocabulary, inner) != wanted:
                    return False
                waiting.append(inner)
    return True


def sort_of(vocabulary, term):
    """The sort of a term, an atom or the truth."""
    if is_variable(term):
        return term[1]
    if term == TRUTH:
        return TRUTH_SORT
    return vocabulary.value_sort(term[0])


def are_alike(vocabulary, one, two):
    """True if two values are terms of the vocabulary of the same sort."""
    if not is_term(vocabulary, one) or not is_term(vocabulary, two):
        return False
    return sort_of(vocabulary, one) == sort_of(vocabulary, two)


def subterms(term):
    """The list of the term and all terms in it: each before its parts, the parts from left to right."""
    found = []
    waiting = [term]
    while waiting:
        part = waiting.pop()
        found.append(part)
        if not is_variable(part):
            waiting.extend(part[:0:-1])
    return found


def term_key(term):
    """The names and sorts in a term, an atom or the truth, from left to right.

    Two terms are equal if their keys are, and the keys compare in plain order. Python compares the keys without going
    into depth, however deep the terms are nested.
    """
    if len(term) == 1 or is_variable(term):
        return term
    found = []
    waiting = [term]
    while waiting:
        part = waiting.pop()
        if is_variable(part):
            found.extend(part)
        else:
            found.append(part[0])
            waiting.extend(part[:0:-1])
    return tuple(found)


def flat_key(value):
    """The strings in any tuples of tuples and strings, from left to right; equal values have equal keys."""
    found = []
    waiting = [value]
    while waiting:
        item = waiting.pop()
        if isinstance(item, str):
            found.append(item)
        else:
            waiting.extend(item[::-1])
    return tuple(found)


def are_same(one, two):
    """True if two terms, atoms or truths are equal."""
    return _first_difference(one, two) is None


def comes_before(one, two):
    """True if the first one of two terms, atoms or truths comes before the other one in plain order."""
    difference = _first_difference(one, two)
    return difference is not None and difference[0] < difference[1]


def _first_difference(one, two):
    """The pair of the first names, or sorts of variables, in which two terms differ, from left to right; or None."""
    waiting = [(one, two)]
    while waiting:
        left, right = waiting.pop()
        if left[0] != right[0]:
            return (left[0], right[0])
        if is_variable(left):
            if left[1] != right[1]:
                return (left[1], right[1])
        elif len(left) > 1:
            waiting.extend(list(zip(left[:0:-1], right[:0:-1])))
    return None


def variables_of(term):
    """The variables that occur, each once, in the order of their first occurrences."""
    found = {}
    for part in subterms(term):
        if is_variable(part):
            found[part] = True
    return tuple(found)


def size_of(term):
    """The number of occurrences of variables, functions and predicates; 1 for the truth."""
    return len(subterms(term))


def part_at(term, place):
    """The term that stands at a place."""
    part = term
    for number in place:
        part = _part(part, number, place)
    return part


def put_at(term, place, new):
    """The term with another one at a place."""
    around = []
    part = term
    for number in place:
        around.append(part)
        part = _part(part, number, place)
    made = new
    for depth in reversed(range(len(place))):
        behind = place[depth] + 1
        made = around[depth][:behind] + (made,) + around[depth][behind + 1:]
    return made


def _part(term, number, place):
    """One part of a term; the error tells the whole place that was asked for."""
    if is_variable(term) or not 0 <= number < len(term) - 1:
        raise BadPlace(place)
    return term[number + 1]


def inner_places(term):
    """All places at which no variable stands: a term before its parts, the parts from left to right."""
    found = []
    waiting = [((), term)]
    while waiting:
        place, part = waiting.pop()
        if not is_variable(part):
            found.append(place)
            for number in reversed(range(len(part) - 1)):
                waiting.append((place + (number,), part[number + 1]))
    return tuple(found)
