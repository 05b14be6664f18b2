"""Rows of pieces, and formulas with their quantifiers moved inwards.

A piece of an inward formula is an atom, an equation, a denied one of these, or a quantified formula.
"""

from claimworlds.errors import TooLong
from claimworlds.formulas import FALSE, QUANTIFIERS, TRUE, TRUTH_WORDS, free_variables, subformulas
from claimworlds.inwards import both, either
from claimworlds.terms import flat_key

MOST_ROWS = 500
JOINING_WORDS = ("and", "or")


def wide_rows(formula):
    """Rows of pieces: the formula says that in each row at least one piece holds."""
    pieces, rows = _numbered_rows(formula, "and", FALSE)
    return _rows_of_pieces(pieces, rows)


def deep_rows(formula):
    """Rows of pieces: the formula says that in at least one row all pieces hold."""
    pieces, rows = _numbered_rows(formula, "or", TRUE)
    return _rows_of_pieces(pieces, rows)


def _rows_of_pieces(pieces, rows):
    """The tuple of the rows with the pieces in the place of their numbers."""
    return tuple([tuple([pieces[number] for number in row]) for row in rows])


def _numbered_rows(formula, collector, blank):
    """The list of the different pieces of a formula, and the list of its rows, in which numbers stand for the pieces.

    The rows of two parts are all kept at a collector, and combined at the other connective. The formula that has one
    row without pieces is `blank`.
    """
    pieces = []
    numbers = {}
    made = []
    for part in reversed(_outer_parts(formula)):
        if part[0] in JOINING_WORDS:
            left = made.pop()
            right = made.pop()
            made.append(_joined_rows(left, right, part[0] == collector))
        elif part[0] in TRUTH_WORDS:
            made.append([()] if part == blank else [])
        else:
            made.append([(_piece_number(part, pieces, numbers),)])
    return (pieces, made.pop())


def _outer_parts(formula):
    """The list of the formula and all in it down to its pieces: each before its parts, from left to right."""
    found = []
    waiting = [formula]
    while waiting:
        part = waiting.pop()
        found.append(part)
        if part[0] in JOINING_WORDS:
            waiting.append(part[2])
            waiting.append(part[1])
    return found


def _piece_number(piece, pieces, numbers):
    """The index of a piece in the list of pieces, in which it is put if it is not there."""
    key = flat_key(piece)
    if key not in numbers:
        numbers[key] = len(pieces)
        pieces.append(piece)
    return numbers[key]


def _joined_rows(left, right, are_collected):
    """The rows of two formulas with a connective between them."""
    count = len(left) + len(right) if are_collected else len(left) * len(right)
    if count > MOST_ROWS:
        raise TooLong()
    rows = left + right if are_collected else [one + two for one in left for two in right]
    kept = {}
    for row in rows:
        short = tuple({number: True for number in row})
        kept.setdefault(tuple(sorted(short)), short)
    return list(kept.values())


def narrowed_formula(formula):
    """The formula with its quantifiers moved inwards."""
    made = []
    for part in reversed(subformulas(formula)):
        if part[0] in QUANTIFIERS:
            made.append(_narrowed_quantifier(part, made.pop()))
        elif part[0] in JOINING_WORDS:
            left = made.pop()
            right = made.pop()
            made.append(both(left, right) if part[0] == "and" else either(left, right))
        elif part[0] == "not":
            made.append(("not", made.pop()))
        else:
            made.append(part)
    return made.pop()


def _narrowed_quantifier(quantified, inner):
    """A quantified formula with its quantifier moved into the narrowed formula in it."""
    if quantified[0] == "all":
        whole = TRUE
        for part in _narrowed_rows(quantified, inner, "and", "or", FALSE):
            whole = both(whole, part)
        return whole
    whole = FALSE
    for part in _narrowed_rows(quantified, inner, "or", "and", TRUE):
        whole = either(whole, part)
    return whole


def _narrowed_rows(quantified, inner, collector, connective, blank):
    """The list of the formulas of the rows: the pieces without the variable, then the quantifier before the others."""
    pieces, rows = _numbered_rows(inner, collector, blank)
    has_variable = [quantified[1:3] in free_variables(piece) for piece in pieces]
    made = []
    for row in rows:
        parts = [pieces[number] for number in row if not has_variable[number]]
        bound = [pieces[number] for number in row if has_variable[number]]
        if bound:
            parts.append(quantified[:3] + (_chained(connective, bound),))
        made.append(_chained(connective, parts) if parts else blank)
    return made


def _chained(connective, pieces):
    """Pieces with a connective between them, joined from left to right."""
    whole = pieces[0]
    for piece in pieces[1:]:
        whole = (connective, whole, piece)
    return whole
