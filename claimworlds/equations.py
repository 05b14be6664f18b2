"""Papers of equations that hold in own worlds of units."""

from claimworlds.clauses import literal_of, side_number
from claimworlds.drafts import Draft
from claimworlds.errors import NotUnits
from claimworlds.scanning import Scan
from claimworlds.terms import are_same, put_at


def equation_paper(own, one, two):
    """A paper from the clauses of the ending whose last line says that two ground terms are the same, or None."""
    for index, clause in enumerate(own.ending.clauses):
        if len(clause) != 1 or not clause[0][0]:
            raise NotUnits(index)
    end = own.value(one)
    if not are_same(end, own.value(two)):
        return None
    draft = Draft()
    line = draft.write(("same", one))
    now = one
    for place, left, candidate in _rewritings(own, one):
        line = _rewritten_line(draft, line, (one, now), place, left, candidate, True)
        now = put_at(now, place, candidate.right)
    for place, left, candidate in reversed(_rewritings(own, two)):
        line = _rewritten_line(draft, line, (one, now), place, left, candidate, False)
        now = put_at(now, place, left)
    return draft.paper_to(line)


def _rewritings(own, term):
    """The list of the rewritings by rules from a term to its value: the place, the left side, the candidate."""
    found = []
    scan = Scan(term, {"": True})
    while scan.current is not None:
        candidate = own.candidate_for(scan.current)
        if candidate is None:
            scan.leave()
        else:
            found.append((scan.current_place(), scan.current, candidate))
            scan.put(candidate.right, {})
    return found


def _rewritten_line(draft, line, sides, place, left, candidate, is_forward):
    """From a line that says that two sides are the same the line in which the second one is rewritten at a place.

    The rule goes from its left side to its right side, or back if `is_forward` is False.
    """
    helper = draft.filled_line(draft.given_line(candidate.index), tuple(candidate.filled.items()))
    rule = literal_of(True, left, candidate.right)
    source = left if is_forward else candidate.right
    side = side_number(literal_of(True, sides[0], sides[1]), sides[1])
    return draft.write(("replace", helper, 0, side_number(rule, source) == 1, line, 0, (side,) + place))
