"""Selections: which negative literal of a clause is to be worked on first."""

from claimworlds.errors import NoSelection

SELECTIONS = ("none", "first", "heaviest")


def selected_index(order, selection, clause):
    """The index of the selected literal of a clause, or None."""
    if selection not in SELECTIONS:
        raise NoSelection(selection)
    negative = [index for index, literal in enumerate(clause) if not literal[0]]
    if selection == "none" or not negative:
        return None
    chosen = negative[0]
    if selection == "heaviest":
        for index in negative:
            if _weight(order, clause[index]) > _weight(order, clause[chosen]):
                chosen = index
    return chosen


def _weight(order, literal):
    """The weight of both sides of a literal together."""
    return order.weight(literal[1]) + order.weight(literal[2])
