"""Putting papers into one another, and making them shorter."""

from claimworlds.checking import all_lines, last_line
from claimworlds.drafts import Draft
from claimworlds.papers import Paper, needed_steps, with_lines


def joined_paper(vocabulary, given, papers, paper):
    """The paper from `given` in which the given clauses of another paper are the last lines of papers."""
    ends = [last_line(vocabulary, given, each) for each in papers]
    all_lines(vocabulary, ends, paper)
    steps = needed_steps(paper.steps)
    draft = Draft()
    lines = {}
    for step in steps:
        if step[0] == "given" and step[1] not in lines:
            inner = needed_steps(papers[step[1]].steps)
            own = {each[1]: draft.given_line(each[1]) for each in inner if each[0] == "given"}
            lines[step[1]] = draft.copied_line(inner, own)
    return draft.paper_to(draft.copied_line(steps, lines))


def trimmed_paper(paper):
    """The paper without steps that are equal to earlier ones or that the last one does not use."""
    kept = []
    firsts = {}
    numbers = []
    for step in paper.steps:
        changed = with_lines(step, numbers)
        key = _step_key(changed)
        if key not in firsts:
            firsts[key] = len(kept)
            kept.append(changed)
        numbers.append(firsts[key])
    if not kept:
        return Paper(())
    return Paper(needed_steps(kept[:numbers[-1] + 1]))


def _step_key(step):
    """A key that equal steps share, and no others: its items from left to right, and for each tuple first its length.

    The length stands in a tuple of its own, which nothing else is in the key.
    """
    found = []
    waiting = [step]
    while waiting:
        item = waiting.pop()
        if isinstance(item, tuple):
            found.append((len(item),))
            waiting.extend(item[::-1])
        else:
            found.append(item)
    return tuple(found)
