"""Where steps may begin and end in a clause, so far as the clause tells it before it is filled."""

from claimworlds.clauses import clause_variables
from claimworlds.selecting import selected_index
from claimworlds.terms import inner_places, is_variable, part_at

HIGH = ("above", "same")


class Ports:
    """The literals, sides and places of a clause that steps may work on.

    What is above another literal or side stays above it when both are filled. So no filling brings back what is left
    out here; `stepping` looks at the filled literals once more.
    """

    def __init__(self, order, selection, clause):
        self.clause = clause
        self.variables = clause_variables(clause)
        self.selected = selected_index(order, selection, clause)
        self.reflecting = []
        self.heads = []
        self.all_places = []
        self.places_by_name = {}
        for index in _open_indexes(order, clause, self.selected):
            if not clause[index][0]:
                self.reflecting.append(index)
            for side in (0, 1):
                if has_high_side(order, clause[index], side):
                    self._enter_side(index, side)

    def _enter_side(self, index, side):
        """Enters a side of a literal as a head, if the literal is positive, and all places in it."""
        if self.clause[index][0]:
            self.heads.append((index, side))
        term = self.clause[index][side + 1]
        for place in inner_places(term):
            part = part_at(term, place)
            row = (index, (side,) + place, part)
            self.all_places.append(row)
            self.places_by_name.setdefault(part[0], []).append(row)

    def places_for(self, head):
        """The list of the places at which a head may stand: rows of a literal, a place and the term there."""
        if is_variable(head):
            return self.all_places
        return self.places_by_name.get(head[0], [])


def has_high_side(order, literal, side):
    """True if the other side of a literal is neither above this side nor the same."""
    return order.compare(literal[2 - side], literal[side + 1]) not in HIGH


def is_topmost(order, literals, index):
    """True if no other literal is above the one with this index."""
    for other, literal in enumerate(literals):
        if other != index and order.compare_literals(literal, literals[index]) == "above":
            return False
    return True


def is_single_topmost(order, literals, index):
    """True if no other literal is above the one with this index or the same."""
    for other, literal in enumerate(literals):
        if other != index and order.compare_literals(literal, literals[index]) in HIGH:
            return False
    return True


def _open_indexes(order, clause, selected):
    """The list of the indexes of the literals that are worked on: the selected one, or those that none is above."""
    if selected is not None:
        return [selected]
    return [index for index in range(len(clause)) if is_topmost(order, clause, index)]
