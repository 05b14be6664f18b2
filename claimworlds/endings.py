"""Endings: what a run kept when it ended, and papers that show that nothing is missing."""


class Ending:
    """Clauses of an order and a selection, a reason for each step between them, and a cover for each given clause."""

    def __init__(self, order, selection, clauses, reasons, covers):
        self.order = order
        self.selection = selection
        self.clauses = tuple(clauses)
        self.reasons = tuple(reasons)
        self.covers = tuple(covers)
