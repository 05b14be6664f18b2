"""Witness forms: formulas without quantifiers, with witnesses for the things of which there are some."""

from claimworlds.dicts import with_entry
from claimworlds.formulas import CONNECTIVES, filled_formula, free_variables, joined_formula


class WitnessMaker:
    """Goes through a narrowed sentence and counts on with its variables and witnesses.

    `marks` are those of the formula without quantifiers (see `joined_formula`), `noted` the witnesses so far.
    """

    def __init__(self, variables, witnesses):
        self.variables = variables
        self.witnesses = witnesses
        self.marks = []
        self.noted = []

    def add_sentence(self, sentence):
        """Goes through a sentence, from the outside to the inside, from left to right."""
        waiting = [(sentence, {})]
        while waiting:
            part, filled = waiting.pop()
            if part[0] == "all":
                waiting.append((part[3], with_entry(filled, part[1:3], self.next_variable(part[2]))))
            elif part[0] == "some":
                waiting.append((part[3], with_entry(filled, part[1:3], self.next_witness(part, filled))))
            elif part[0] in CONNECTIVES:
                self.marks.append((part[:1], 2))
                waiting.append((part[2], filled))
                waiting.append((part[1], filled))
            else:
                self.marks.append((filled_formula(part, filled), 0))

    def next_variable(self, sort):
        """The next variable, of this sort."""
        variable = ("Z" + str(self.variables), sort)
        self.variables += 1
        return variable

    def next_witness(self, formula, filled):
        """Notes the witness for a formula that begins with "some", and returns its term."""
        formula = filled_formula(formula, filled)
        name = "zw" + str(self.witnesses)
        guides = free_variables(formula)
        self.noted.append((name, guides, formula[1:3], formula[3]))
        self.witnesses += 1
        return (name,) + guides


def witness_form(formula, variables, witnesses):
    """The pair of the formula without quantifiers and the tuple of its witnesses."""
    maker = WitnessMaker(variables, witnesses)
    maker.add_sentence(formula)
    return (joined_formula(maker.marks), tuple(maker.noted))
