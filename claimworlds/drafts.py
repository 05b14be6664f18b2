"""Papers while they are written."""

from claimworlds.checking import line_of
from claimworlds.papers import Paper, with_lines
from claimworlds.terms import are_same, flat_key


class Draft:
    """The steps of a paper that grows. Its methods return numbers of lines.

    A given clause, and a line filled in the same way, stands there once only.
    """

    def __init__(self):
        self.steps = []
        self.given_lines = {}
        self.filled_lines = {}

    def write(self, step):
        """The line of a further step."""
        self.steps.append(step)
        return len(self.steps) - 1

    def given_line(self, index):
        """The line of a given clause."""
        if index not in self.given_lines:
            self.given_lines[index] = self.write(("given", index))
        return self.given_lines[index]

    def filled_line(self, line, pairs):
        """The line that another one becomes when it is filled."""
        if not pairs:
            return line
        key = (line, flat_key(pairs))
        if key not in self.filled_lines:
            self.filled_lines[key] = self.write(("fill", line, pairs))
        return self.filled_lines[key]

    def wider_line(self, line, literals):
        """The line with further literals."""
        for literal in literals:
            line = self.write(("more", line, literal))
        return line

    def copied_line(self, steps, lines):
        """The last line of other steps, which are written here. `lines` has the lines that their given clauses are."""
        numbers = []
        for step in steps:
            if step[0] == "given":
                numbers.append(lines[step[1]])
            else:
                numbers.append(self.write(with_lines(step, numbers)))
        return numbers[-1]

    def paper_to(self, line):
        """The paper that ends with a line."""
        return Paper(self.steps[:line + 1])


class LinedDraft(Draft):
    """A draft that also has the clauses of its lines."""

    def __init__(self, vocabulary, clauses):
        super().__init__()
        self.vocabulary = vocabulary
        self.clauses = clauses
        self.lines = []

    def write(self, step):
        """The line of a further step."""
        self.lines.append(line_of(self.vocabulary, self.clauses, self.lines, step))
        return super().write(step)

    def cleared_line(self, line):
        """The line without its negative literals with two equal sides."""
        for index in reversed(range(len(self.lines[line]))):
            positive, one, two = self.lines[line][index]
            if not positive and are_same(one, two):
                line = self.write(("drop", line, index))
        return line
