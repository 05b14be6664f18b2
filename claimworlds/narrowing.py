"""Rows of pieces, and formulas with their quantifiers moved inwards.

A piece of an inward formula is an atom, an equation, a denied one of these, or a quantified formula.
"""

from claimworlds.errors import TooLong
from claimworlds.formulas import FALSE, QUANTIFIERS, TRUE, TRUTH_WORDS, free_variables, subformulas
from claimworlds.inwards import both, either
from claimworlds.terms import flat_key

MOST_ROWS = 500
JOINING_WORDS = ("and", "or")


def wide_rows(formula):
    """Rows of pieces: the formula says that in each row at least one piece holds."""
    return _rows_of(formula, "and", FALSE)


def deep_rows(formula):
    """Rows of pieces: the formula says that in at least one row all pieces hold."""
    return _rows_of(formula, "or", TRUE)


def _rows_of(formula, collector, blank):
    """The rows of a formula. Those of its parts are all kept at a collector, and combined at the other connective.

    The formula that has one row without pieces is `blank`. While the rows are made, numbers stand for the pieces.
    """
    pieces = []
    numbers = {}
    made = []
    for part in reversed(_outer_parts(formula)):
        if part[0] in JOINING_WORDS:
            left = made.pop()
            right = made.pop()
            made.append(_joined_rows(left, right, part[0] == collector))
        elif part[0] in TRUTH_WORDS:
            made.append([()] if part == blank else [])
        else:
            made.append([(_piece_number(part, pieces, numbers),)])
    return tuple([tuple([pieces[number] for number in row]) for row in made.pop()])


def _outer_parts(formula):
    """The list of the formula and all in it down to its pieces: each before its parts, from left to right."""
    found = []
    waiting = [formula]
    while waiting:
        part = waiting.pop()
        found.append(part)
        if part[0] in JOINING_WORDS:
            waiting.append(part[2])
            waiting.append(part[1])
    return found


def _piece_number(piece, pieces, numbers):
    """The index of a piece in the list of pieces, in which it is put if it is not there."""
    key = flat_key(piece)
    if key not in numbers:
        numbers[key] = len(pieces)
        pieces.append(piece)
    return numbers[key]


def _joined_rows(left, right, are_collected):
    """The rows of two formulas with a connective between them."""
    count = len(left) + len(right) if are_collected else len(left) * len(right)
    if count > MOST_ROWS:
        raise TooLong()
    rows = left + right if are_collected else [one + two for one in left for two in right]
    kept = {}
    for row in rows:
        short = tuple({number: True for number in row})
        kept.setdefault(tuple(sorted(short)), short)
    return list(kept.values())


def narrowed_formula(formula):
    """The formula with its quantifiers moved inwards."""
    made = []
    for part in reversed(subformulas(formula)):
        if part[0] in QUANTIFIERS:
            made.append(_narrowed_quantifier(part, made.pop()))
        elif part[0] in JOINING_WORDS:
            left = made.pop()
            right = made.pop()
            made.append(both(left, right) if part[0] == "and" else either(left, right))
        elif part[0] == "not":
            made.append(("not", made.pop()))
        else:
            made.append(part)
    return made.pop()


def _narrowed_quantifier(quantified, inner):
    """A quantified formula with its quantifier moved into the narrowed formula in it."""
    if quantified[0] == "all":
        whole = TRUE
        for row in wide_rows(inner):
            whole = both(whole, _narrowed_row(quantified, row, "or", FALSE))
        return whole
    whole = FALSE
    for row in deep_rows(inner):
        whole = either(whole, _narrowed_row(quantified, row, "and", TRUE))
    return whole


def _narrowed_row(quantified, row, connective, blank):
    """The formula of a row: the pieces without the variable, then the quantifier before those with it."""
    word, name, sort = quantified[:3]
    with_it = []
    without_it = []
    for piece in row:
        if (name, sort) in free_variables(piece):
            with_it.append(piece)
        else:
            without_it.append(piece)
    if not row:
        return blank
    if not with_it:
        return _chained(connective, without_it)
    narrow = (word, name, sort, _chained(connective, with_it))
    if not without_it:
        return narrow
    return (connective, _chained(connective, without_it), narrow)


def _chained(connective, pieces):
    """Pieces with a connective between them, joined from left to right."""
    whole = pieces[0]
    for piece in pieces[1:]:
        whole = (connective, whole, piece)
    return whole
