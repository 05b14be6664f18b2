"""Rounds 2 and 3 of reading terms, of texts of terms alone and within other texts."""

from claimworlds.errors import UnknownName, WrongCount, WrongSort
from claimworlds.terms import sort_of
from claimworlds.vocabularies import TRUTH_SORT


class Head:
    """The first token of a term in a text, the sort behind it if one stands there, and how many parts follow."""

    def __init__(self, token, sort_token):
        self.is_variable = token[0] == "variable"
        self.name = token[1]
        self.column = token[2]
        self.sort_token = sort_token
        self.parts = 0


def term_heads(tokens, sorted_variables):
    """Round 2: reads one term or atom and returns the heads in it, each before those of its parts.

    The sort stands behind each variable if `sorted_variables` is True, otherwise behind none.
    """
    heads = []
    around = []
    while True:
        head = _next_head(tokens, sorted_variables)
        heads.append(head)
        if not head.is_variable and tokens.next_kind() == "(":
            tokens.take()
            head.parts = 1
            around.append(head)
            continue
        while around and tokens.next_kind() == ")":
            tokens.take()
            around.pop()
        if not around:
            return heads
        tokens.want(",")
        around[-1].parts += 1


def _next_head(tokens, sorted_variables):
    """The head that the next tokens make."""
    if tokens.next_kind() != "variable":
        return Head(tokens.want("name"), None)
    token = tokens.take()
    if not sorted_variables:
        return Head(token, None)
    tokens.want(":")
    return Head(token, tokens.want("name"))


def built_term(vocabulary, heads, bound):
    """Round 3: the term with these heads. `bound` has the sorts of variables behind which no sort stands."""
    return _built(vocabulary, heads, bound, False)


def built_atom(vocabulary, heads, bound):
    """Round 3: the atom with these heads, in the same way."""
    return _built(vocabulary, heads, bound, True)


def _built(vocabulary, heads, bound, wants_atom):
    """The term or atom with these heads."""
    around = []
    made = None
    for index, head in enumerate(heads):
        if head.is_variable:
            made = (head.name, _variable_sort(vocabulary, head, bound))
        else:
            _check_head(vocabulary, head, wants_atom and index == 0)
            if head.parts > 0:
                around.append((head, []))
                continue
            made = (head.name,)
        made = _handed_on(vocabulary, around, made, head.column)
    return made


def _variable_sort(vocabulary, head, bound):
    """The sort of a variable, from the text behind it or from the quantifiers around it."""
    if head.sort_token is None:
        if head.name not in bound:
            raise UnknownName(head.column)
        return bound[head.name]
    if head.sort_token[1] not in vocabulary.sorts:
        raise UnknownName(head.sort_token[2])
    return head.sort_token[1]


def _check_head(vocabulary, head, is_predicate):
    """Refuses a name that is no function (no predicate), and a wrong number of parts."""
    sort = vocabulary.value_sort(head.name)
    if sort is None or (sort == TRUTH_SORT) != is_predicate:
        raise UnknownName(head.column)
    if len(vocabulary.arguments(head.name)) != head.parts:
        raise WrongCount(head.column)


def _handed_on(vocabulary, around, made, column):
    """Hands a term to the one around it, and that one on if it has all its parts; returns the outermost one."""
    while around:
        head, parts = around[-1]
        if sort_of(vocabulary, made) != vocabulary.arguments(head.name)[len(parts)]:
            raise WrongSort(column)
        parts.append(made)
        if len(parts) < head.parts:
            return None
        around.pop()
        made = (head.name,) + tuple(parts)
        column = head.column
    return made
