"""Papers of steps between clauses."""

from claimworlds.clauses import literal_index, literal_of, side_number
from claimworlds.drafts import LinedDraft
from claimworlds.fillings import Filling
from claimworlds.terms import are_same


def step_paper(vocabulary, clauses, step):
    """The paper whose last line is the conclusion of a step."""
    draft = LinedDraft(vocabulary, clauses)
    line = draft.filled_line(draft.given_line(step.address[1]), step.first)
    if step.address[0] == "factor":
        line = _factor_line(draft, line, step)
    elif step.address[0] == "replace":
        line = _replace_line(draft, line, step)
    return draft.paper_to(draft.cleared_line(line))


def _factor_line(draft, line, step):
    """From the line of the filled clause the line in which the rest of `b` stands for the rest of `a`."""
    _, i, a, s, b, t = step.address
    filling = Filling(step.first)
    clause = draft.clauses[i]
    old = filling(clause[a][2 - s])
    new = filling(clause[b][2 - t])
    if are_same(old, new):
        return line
    # The negative literal of the line "either" stands before the positive one.
    either = draft.write(("either", old, new))
    literal = step.main[a]
    turned = not are_same(literal_of(True, old, new)[1], old)
    return draft.write(
        ("replace", either, 1, turned, line, literal_index(draft.lines[line], literal), (side_number(literal, old),)))


def _replace_line(draft, line, step):
    """From the line of the filled clause `i` the line in which the rest of `a` stands at the place."""
    _, i, a, s, j, b, place = step.address
    first = Filling(step.first)
    _, left, right = draft.clauses[i][a]
    literal = literal_of(True, first(left), first(right))
    head = first(draft.clauses[i][a][s + 1])
    other = draft.filled_line(draft.given_line(j), step.second)
    goal = step.main[b]
    side = side_number(goal, Filling(step.second)(draft.clauses[j][b][place[0] + 1]))
    return draft.write((
        "replace", line, literal_index(draft.lines[line], literal), not are_same(literal[1], head),
        other, literal_index(draft.lines[other], goal), (side,) + place[1:]))

