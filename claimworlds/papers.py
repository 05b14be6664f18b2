"""Papers: steps that show that a clause follows from given clauses."""


class Paper:
    """A sequence of steps. Which steps are allowed, and what their lines are, tells `checking`."""

    def __init__(self, steps):
        self.steps = tuple(steps)
