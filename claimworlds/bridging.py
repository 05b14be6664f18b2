"""Bridges between runs of the same clauses."""

from claimworlds.clauses import clause_key
from claimworlds.errors import GivenDiffer


def bridge_runs(one, two):
    """For each kept clause of the second run a paper from the kept clauses of the first one."""
    ones = [clause_key(clause) for clause in one.given]
    twos = [clause_key(clause) for clause in two.given]
    if ones != twos:
        raise GivenDiffer()
    return tuple([one.carried(two.paper_for(number)) for number in two.kept])
