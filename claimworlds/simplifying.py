"""Making clauses smaller by helpers."""

from claimworlds.clauses import clause_of, literal_index
from claimworlds.drafts import Draft
from claimworlds.helpers import Helpers
from claimworlds.terms import TRUTH
from claimworlds.trails import Trail


class Simplified:
    """What a clause was simplified to, with a paper from the clause to it and a paper back."""

    def __init__(self, result, forward, backward, is_changed):
        self.result = result
        self.forward = forward
        self.backward = backward
        self.is_changed = is_changed


def simplify(vocabulary, order, helpers, clause):
    """A clause made smaller by helpers, until it is a tautology or clear."""
    return simplified_by(Helpers(vocabulary, order, helpers), clause)


def simplified_by(helpers, clause):
    """The clause made smaller by helpers that can be looked up."""
    trail = Trail(helpers, clause)
    trail.go()
    forward = _forward_paper(helpers.count, trail.moves)
    backward = _backward_paper(helpers.count, trail.moves)
    return Simplified(trail.clause, forward, backward, len(trail.moves) > 0)


def _forward_paper(count, moves):
    """The paper from so many helpers and the clause before the moves to the clause behind them."""
    draft = Draft()
    line = draft.given_line(count)
    for move in moves:
        line = _line_behind(draft, line, move)
    return draft.paper_to(line)


def _line_behind(draft, line, move):
    """From the line before a move the line behind it."""
    index = move.index
    if move.use is None:
        return draft.write(("drop", line, index))
    helper = _helper_line(draft, move.use)
    if move.made is not None:
        return draft.write(("replace", helper, 0, move.turned, line, index, move.place))
    # The positive one of the two literals turns the other one to one with two equal sides.
    positive, _, two = move.before[index]
    if positive:
        line = draft.write(("replace", line, index, False, helper, 0, (0,)))
    else:
        line = draft.write(("replace", helper, 0, False, line, index, (0,)))
    void = (False, two, two)
    return draft.write(("drop", line, literal_index(clause_of(move.after + (void,)), void)))


def _backward_paper(count, moves):
    """The paper from so many helpers and the clause behind the moves to the clause before them; it is a cover."""
    draft = Draft()
    line = draft.given_line(count)
    for move in reversed(moves):
        line = _line_before(draft, line, move)
    return draft.paper_to(line)


def _line_before(draft, line, move):
    """From the line behind a move the line before it."""
    if move.made is None:
        return draft.wider_line(line, [move.before[move.index]])
    helper = _helper_line(draft, move.use)
    if move.use.made == TRUTH:
        # The filled helper is the literal itself.
        return draft.wider_line(helper, move.before[:move.index] + move.before[move.index + 1:])
    index = literal_index(move.after, move.made)
    line = draft.write(("replace", helper, 0, not move.turned, line, index, move.made_place))
    # If the clause became shorter, the literal that was made had been there already.
    return draft.wider_line(line, [move.made]) if len(move.after) < len(move.before) else line


def _helper_line(draft, use):
    """The line of a filled helper."""
    return draft.filled_line(draft.given_line(use.index), tuple(use.filled.items()))
