"""Papers: steps that show that a clause follows from given clauses."""

from claimworlds.wholes import is_whole

LINE_ITEMS = {
    "given": (), "same": (), "either": (), "fill": (1,), "more": (1,), "drop": (1,), "replace": (1, 4),
}


class Paper:
    """A sequence of steps. Which steps are allowed, and what their lines are, tells `checking`."""

    def __init__(self, steps):
        self.steps = tuple(steps)


def lines_used(step):
    """The numbers of the lines that the line of a step is made of, in order."""
    return tuple([step[item] for item in _line_items(step)])


def with_lines(step, numbers):
    """The step with other numbers of lines: `numbers` has the new one under each old one."""
    items = list(step)
    for item in _line_items(step):
        items[item] = numbers[step[item]]
    return tuple(items)


def _line_items(step):
    """The list of the indexes of the items that are numbers of lines.

    Steps that are not allowed may have fewer items than others with their word, and anything among them.
    """
    if len(step) == 0 or not isinstance(step[0], str):
        return []
    return [item for item in LINE_ITEMS.get(step[0], ()) if item < len(step) and is_whole(step[item])]


def needed_lines(steps):
    """The list of the numbers of the lines that the last one is made of, directly or through others, and of itself."""
    needed = {len(steps) - 1: True} if steps else {}
    for number in reversed(range(len(steps))):
        if number in needed:
            for other in lines_used(steps[number]):
                needed[other] = True
    return sorted(needed)


def needed_steps(steps):
    """The list of the steps that the last one uses, directly or through others, with new numbers of lines."""
    found = []
    numbers = {}
    for number in needed_lines(steps):
        numbers[number] = len(found)
        found.append(with_lines(steps[number], numbers))
    return found
