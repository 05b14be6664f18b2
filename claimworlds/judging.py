"""The judge of endings."""

from claimworlds.clauses import is_clause
from claimworlds.covering import is_cover
from claimworlds.stepping import all_steps


def is_ending(vocabulary, given, ending):
    """True if an ending shows that the given clauses have no refutation."""
    for clause in ending.clauses:
        if clause == () or not is_clause(vocabulary, clause):
            return False
    steps = all_steps(vocabulary, ending.order, ending.selection, ending.clauses)
    if len(ending.reasons) != len(steps) or len(ending.covers) != len(given):
        return False
    goals = [step.conclusion for step in steps] + list(given)
    for reason, step in zip(ending.reasons, steps):
        if not _are_equal(reason[0], step.address):
            return False
    papers = [reason[1] for reason in ending.reasons] + list(ending.covers)
    for paper, goal in zip(papers, goals):
        if not is_cover(vocabulary, ending.order, ending.clauses, paper, goal):
            return False
    return True


def _are_equal(value, address):
    """True if a value is an address; True and False are no numbers in it."""
    waiting = [(value, address)]
    while waiting:
        one, two = waiting.pop()
        if isinstance(one, tuple) and isinstance(two, tuple) and len(one) == len(two):
            for pair in zip(one, two):
                waiting.append(pair)
        elif one != two or isinstance(one, bool):
            return False
    return True
