"""The errors that the program raises, each with what it tells as a field."""


class ClaimError(ValueError):
    """The base class of all errors that the program raises."""


class TextError(ClaimError):
    """The base class of the errors of texts of terms, formulas and clauses."""


class BadName(ClaimError):
    """A name is not a name."""

    def __init__(self, name):
        super().__init__(f"name {name!r}")
        self.name = name


class NameTaken(ClaimError):
    """A name stands earlier already."""

    def __init__(self, name):
        super().__init__(f"name {name!r}")
        self.name = name


class NoSort(ClaimError):
    """A name is no sort of the vocabulary."""

    def __init__(self, name):
        super().__init__(f"name {name!r}")
        self.name = name


class ReservedName(ClaimError):
    """A name is one that only the program makes."""

    def __init__(self, name):
        super().__init__(f"name {name!r}")
        self.name = name


class NotSentence(ClaimError):
    """What stands under a name is no sentence of the vocabulary."""

    def __init__(self, name):
        super().__init__(f"name {name!r}")
        self.name = name


class NoAxiom(ClaimError):
    """A book has no axiom with a name."""

    def __init__(self, name):
        super().__init__(f"name {name!r}")
        self.name = name


class BadTable(ClaimError):
    """The table of a name does not fit its world."""

    def __init__(self, name):
        super().__init__(f"name {name!r}")
        self.name = name


class BadWeight(ClaimError):
    """The weight of a name is not 1 to 9."""

    def __init__(self, name):
        super().__init__(f"name {name!r}")
        self.name = name


class BadSize(ClaimError):
    """The size of a sort is not a whole number from 1 on."""

    def __init__(self, name):
        super().__init__(f"name {name!r}")
        self.name = name


class BadPlace(ClaimError):
    """A term has no such place."""

    def __init__(self, place):
        super().__init__(f"place {place!r}")
        self.place = place


class FilledTwice(ClaimError):
    """A filling has two pairs for one variable."""

    def __init__(self, variable):
        super().__init__(f"variable {variable!r}")
        self.variable = variable


class NoSelection(ClaimError):
    """A string is not one of the selections."""

    def __init__(self, selection):
        super().__init__(f"selection {selection!r}")
        self.selection = selection


class BadText(TextError):
    """A text is not of the wanted form."""

    def __init__(self, column):
        super().__init__(f"column {column!r}")
        self.column = column


class UnknownName(TextError):
    """A text uses a name that is not known where it stands."""

    def __init__(self, column):
        super().__init__(f"column {column!r}")
        self.column = column


class WrongCount(TextError):
    """A name in a text has a wrong number of parts."""

    def __init__(self, column):
        super().__init__(f"column {column!r}")
        self.column = column


class WrongSort(TextError):
    """A term in a text has not the wanted sort."""

    def __init__(self, column):
        super().__init__(f"column {column!r}")
        self.column = column


class NameBound(TextError):
    """A quantifier in a text has the variable name of one around it."""

    def __init__(self, column):
        super().__init__(f"column {column!r}")
        self.column = column


class BadLine(ClaimError):
    """A line of a text is not of a wanted form."""

    def __init__(self, number):
        super().__init__(f"number {number!r}")
        self.number = number


class NoClause(ClaimError):
    """A run has no clause with a number."""

    def __init__(self, number):
        super().__init__(f"number {number!r}")
        self.number = number


class NotWaiting(ClaimError):
    """The clause with a number is not waiting."""

    def __init__(self, number):
        super().__init__(f"number {number!r}")
        self.number = number


class BadStep(ClaimError):
    """A step of a paper is not allowed."""

    def __init__(self, index):
        super().__init__(f"index {index!r}")
        self.index = index


class NotUnit(ClaimError):
    """A given clause is no unit."""

    def __init__(self, index):
        super().__init__(f"index {index!r}")
        self.index = index


class NotUnits(ClaimError):
    """A clause of an ending is not one positive literal."""

    def __init__(self, index):
        super().__init__(f"index {index!r}")
        self.index = index


class BadClause(ClaimError):
    """An item is no clause of the vocabulary."""

    def __init__(self, index):
        super().__init__(f"index {index!r}")
        self.index = index


class TooHeavy(ClaimError):
    """A side weighs more than is looked at."""

    def __init__(self, load):
        super().__init__(f"load {load!r}")
        self.load = load


class TooLong(ClaimError):
    """More rows would be made than are allowed."""


class TooMany(ClaimError):
    """More ground terms would be made than are allowed."""


class NoSteps(ClaimError):
    """A paper without steps has no last line."""


class NotRefutation(ClaimError):
    """A paper is no refutation."""


class RunOver(ClaimError):
    """A run that is not going takes no clause."""


class GivenDiffer(ClaimError):
    """Two runs were given different clauses."""


class NotEnded(ClaimError):
    """A run that has not ended has no ending."""
