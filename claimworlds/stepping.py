"""Steps between clauses: reflect, factor and replace."""

from claimworlds.clauses import clause_of, filled_literals, literal_key, literal_of
from claimworlds.fillings import Filling, fresh_filling
from claimworlds.ports import HIGH, Ports, is_single_topmost, is_topmost
from claimworlds.selecting import selected_index
from claimworlds.terms import are_same, is_variable, put_at, sort_of
from claimworlds.unifying import unify_terms


class Step:
    """A step at an address: its conclusion, its main literals, and the pairs of the fillings of its clauses."""

    def __init__(self, address, conclusion, main, first, second):
        self.address = address
        self.conclusion = conclusion
        self.main = main
        self.first = first
        self.second = second


def step_at(vocabulary, order, selection, clauses, address):
    """The step at an address, or None."""
    selected_index(order, selection, ())
    one = Ports(order, selection, clauses[address[1]])
    if address[0] == "reflect":
        return _reflect_step(order, one, address) if address[2] in one.reflecting else None
    if address[2:4] not in one.heads:
        return None
    if address[0] == "factor":
        return _factor_step(vocabulary, order, one, address) if one.clause[address[4]][0] else None
    two = Ports(order, selection, clauses[address[4]])
    head = one.clause[address[2]][address[3] + 1]
    for index, place, part in two.places_for(head):
        if (index, place) == address[5:]:
            return _replace_step(vocabulary, order, one, two, address, part)
    return None


def all_steps(vocabulary, order, selection, clauses):
    """All steps, in ascending order of their addresses."""
    selected_index(order, selection, ())
    return tuple(steps_between(vocabulary, order, [Ports(order, selection, clause) for clause in clauses], None))


def steps_with(vocabulary, order, selection, clauses, index):
    """The steps in which one clause takes part, in ascending order of their addresses."""
    selected_index(order, selection, ())
    return tuple(steps_between(vocabulary, order, [Ports(order, selection, clause) for clause in clauses], index))


def steps_between(vocabulary, order, ports, index):
    """The list of the steps between clauses with these ports; only those of one clause if the index is not None."""
    every = list(range(len(ports)))
    own = every if index is None else [index]
    found = [_reflect_step(order, ports[i], ("reflect", i, a)) for i in own for a in ports[i].reflecting]
    for i in own:
        for address in _factor_addresses(i, ports[i]):
            found.append(_factor_step(vocabulary, order, ports[i], address))
    for i in every:
        others = own if i != index else every
        for a, s in ports[i].heads:
            head = ports[i].clause[a][s + 1]
            for j in others:
                for b, place, part in ports[j].places_for(head):
                    address = ("replace", i, a, s, j, b, place)
                    found.append(_replace_step(vocabulary, order, ports[i], ports[j], address, part))
    return [step for step in found if step is not None]


def _factor_addresses(i, port):
    """The list of the addresses at which a clause may have a factor step."""
    positive = [index for index, literal in enumerate(port.clause) if literal[0]]
    return [("factor", i, a, s, b, t) for a, s in port.heads for b in positive if b != a for t in (0, 1)]


def _reflect_step(order, port, address):
    """The reflect step at an address, or None."""
    a = address[2]
    filling = unify_terms(port.clause[a][1], port.clause[a][2])
    if filling is None:
        return None
    filled = filled_literals(port.clause, filling)
    if port.selected is None and not is_topmost(order, filled, a):
        return None
    return Step(address, _conclusion(_without(filled, a)), filled, filling.pairs, ())


def _factor_step(vocabulary, order, port, address):
    """The factor step at an address, or None."""
    _, _, a, s, b, t = address
    left = port.clause[a]
    right = port.clause[b]
    if sort_of(vocabulary, left[1]) != sort_of(vocabulary, right[1]):
        return None
    filling = unify_terms(left[s + 1], right[t + 1])
    if filling is None:
        return None
    filled = filled_literals(port.clause, filling)
    rest = filling(left[2 - s])
    if order.compare(rest, filling(left[s + 1])) in HIGH or not is_topmost(order, filled, a):
        return None
    fresh = literal_of(False, rest, filling(right[2 - t]))
    return Step(address, _conclusion(_without(filled, a) + [filled[b], fresh]), filled, filling.pairs, ())


def _replace_step(vocabulary, order, one, two, address, part):
    """The replace step at an address, at which a term stands, or None."""
    _, _, a, s, _, b, place = address
    head = one.clause[a][s + 1]
    if _clash(head, part) or sort_of(vocabulary, head) != sort_of(vocabulary, part):
        return None
    fillings = _common_fillings(one, two, head, part)
    if fillings is None:
        return None
    first, second = fillings
    left = filled_literals(one.clause, first)
    main = filled_literals(two.clause, second)
    rest = first(one.clause[a][2 - s])
    side = second(two.clause[b][place[0] + 1])
    other = second(two.clause[b][2 - place[0]])
    if order.compare(rest, first(head)) in HIGH or order.compare(other, side) in HIGH:
        return None
    if not is_single_topmost(order, left, a) or not _is_open(order, two, main, b, left[a]):
        return None
    made = literal_of(main[b][0], put_at(side, place[1:], rest), other)
    conclusion = _conclusion(_without(left, a) + _without(main, b) + [made])
    return Step(address, conclusion, main, first.pairs, second.pairs)


def _is_open(order, port, filled, b, used):
    """True if another literal may be used in a filled literal of a clause."""
    if port.selected is not None:
        return True
    if not filled[b][0]:
        return is_topmost(order, filled, b)
    return is_single_topmost(order, filled, b) and order.compare_literals(used, filled[b]) not in HIGH


def _common_fillings(one, two, head, part):
    """The fillings of the variables of two clauses that make a term of each the same; None if there are none.

    The variables of the first clause are named anew, and those of the second one with the numbers that follow.
    """
    left = fresh_filling(one.variables, 0)
    right = fresh_filling(two.variables, len(one.variables))
    common = unify_terms(left(head), right(part))
    if common is None:
        return None
    first = Filling([(variable, common(left(variable))) for variable in one.variables])
    return (first, Filling([(variable, common(right(variable))) for variable in two.variables]))


def _clash(one, two):
    """True if two terms have different names at a place, so that no filling makes them equal."""
    waiting = [(one, two)]
    while waiting:
        left, right = waiting.pop()
        if is_variable(left) or is_variable(right):
            continue
        if left[0] != right[0]:
            return True
        for pair in zip(left[1:], right[1:]):
            waiting.append(pair)
    return False


def _without(literals, index):
    """The list of the literals that are not the one with this index."""
    key = literal_key(literals[index])
    return [literal for literal in literals if literal_key(literal) != key]


def _conclusion(literals):
    """The clause of these literals, without the negative ones with two equal sides."""
    return clause_of([literal for literal in literals if literal[0] or not are_same(literal[1], literal[2])])
