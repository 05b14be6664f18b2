"""Steps of papers whose given clauses are the clauses that a run knows, by their numbers."""

from claimworlds.clauses import filled_clause, literal_index
from claimworlds.drafts import Draft
from claimworlds.papers import Paper, needed_steps
from claimworlds.terms import are_same


def joined_steps(outer, numbers, inner):
    """The steps in which the last line of `inner` is a given clause of `outer`.

    The given clauses of `outer` are known clauses with these numbers and, behind them, that line. Those of `inner` are
    known clauses.
    """
    draft = Draft()
    lines = {len(numbers): _copied(draft, inner)}
    for step in outer:
        if step[0] == "given" and step[1] not in lines:
            lines[step[1]] = draft.given_line(numbers[step[1]])
    return draft.paper_to(draft.copied_line(outer, lines)).steps


def _copied(draft, steps):
    """The last line of steps from known clauses, in a draft of such steps."""
    return draft.copied_line(steps, {number: draft.given_line(number) for number in given_numbers(steps)})


def given_numbers(steps):
    """The list of the numbers in given steps."""
    return [step[1] for step in steps if step[0] == "given"]


def wider_steps(number, clause, filling, goal):
    """The steps by which a known clause, inside the goal by a filling, covers it."""
    filled = filled_clause(clause, filling)
    draft = Draft()
    line = draft.filled_line(draft.given_line(number), filling.pairs)
    return draft.paper_to(_widened(draft, line, filled, goal)).steps


def tautology_steps(clause):
    """The steps that show that a tautology holds."""
    draft = Draft()
    for positive, one, two in clause:
        if positive and are_same(one, two):
            return draft.paper_to(_widened(draft, draft.write(("same", one)), ((positive, one, two),), clause)).steps
    for positive, one, two in clause:
        pair = ((False, one, two), (True, one, two))
        if positive and literal_index(clause, pair[0]) is not None:
            return draft.paper_to(_widened(draft, draft.write(("either", one, two)), pair, clause)).steps
    return ()


def _widened(draft, line, clause, goal):
    """From the line of a clause the line of the goal, which has all of its literals."""
    return draft.wider_line(line, [literal for literal in goal if literal_index(clause, literal) is None])


def unfolded_paper(steps, blocks, leaves):
    """The paper that steps become when each known clause is put down to given clauses of the paper.

    A known clause among the leaves is the given clause that is told there. Each other one is the last line of its block
    of steps from known clauses, each of which stands in the paper once only.
    """
    draft = Draft()
    lines = {}
    for number in _block_order(steps, blocks, leaves):
        if number in leaves:
            lines[number] = draft.given_line(leaves[number])
        else:
            lines[number] = draft.copied_line(blocks[number], lines)
    line = draft.copied_line(steps, lines)
    return Paper(needed_steps(draft.paper_to(line).steps))


def _block_order(steps, blocks, leaves):
    """The list of the known clauses that steps need, directly or through blocks, each behind those that it needs."""
    found = {}
    waiting = given_numbers(steps)
    while waiting:
        number = waiting[-1]
        missing = []
        if number not in found and number not in leaves:
            missing = [other for other in given_numbers(blocks[number]) if other not in found]
        if missing:
            waiting.extend(missing)
        else:
            found[waiting.pop()] = True
    return list(found)
