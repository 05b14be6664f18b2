"""Turning refutations to derivations."""

from claimworlds.checking import refuting_lines
from claimworlds.clauses import clause_variables, literal_index
from claimworlds.drafts import LinedDraft
from claimworlds.errors import NotUnit
from claimworlds.papers import with_lines
from claimworlds.terms import TRUTH


def turned_paper(vocabulary, given, paper, first):
    """The paper from the given clauses before the units whose last line has only opposites of these units.

    Each step of the refutation is done once more. The line of a unit has its opposite literal, too, so it holds by
    itself; the opposites stay in all lines that are made of it, for they have no variables.
    """
    lines = refuting_lines(vocabulary, given, paper)
    for index in range(first, len(given)):
        if len(given[index]) != 1 or clause_variables(given[index]):
            raise NotUnit(index)
    draft = LinedDraft(vocabulary, given)
    numbers = []
    for step in paper.steps:
        if step[0] == "given" and step[1] >= first:
            numbers.append(_line_of_unit(draft, given[step[1]][0]))
        else:
            numbers.append(draft.write(_step_between(step, lines, draft.lines, numbers)))
    return draft.paper_to(numbers[-1])


def _line_of_unit(draft, literal):
    """The line of a literal and its opposite."""
    if literal[1] != TRUTH:
        return draft.write(("either", literal[1], literal[2]))
    return draft.wider_line(draft.write(("same", TRUTH)), [(False, TRUTH, TRUTH)])


def _step_between(step, lines, wider, numbers):
    """A step between lines as a step between the wider lines that stand for them: `numbers` tells which."""
    if step[0] not in ("drop", "replace"):
        return with_lines(step, numbers)
    items = list(with_lines(step, numbers))
    items[2] = literal_index(wider[items[1]], lines[step[1]][step[2]])
    if step[0] == "replace":
        items[5] = literal_index(wider[items[4]], lines[step[4]][step[5]])
    return tuple(items)
