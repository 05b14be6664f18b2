"""Rounds 2 and 3 of reading sentences.

Round 2 makes a list of marks in the order of the text: the brackets, words and quantifiers, and between them
the leaves with the heads of their terms. Round 3 goes through the marks and puts the sentence together.
"""

from claimworlds.errors import BadText, NameBound, UnknownName
from claimworlds.formulas import CONNECTIVES, QUANTIFIERS, TRUTH_WORDS
from claimworlds.leafreading import built_leaf, leaf_mark

STRENGTHS = {"iff": 1, "implies": 2, "or": 3, "and": 4, "not": 5}


def formula_marks(tokens):
    """Round 2: the marks of a formula that takes all tokens."""
    marks = []
    opened = 0
    while True:
        opened += _read_operand(tokens, marks)
        while opened > 0 and tokens.next_kind() == ")":
            marks.append((tokens.take()[0],))
            opened -= 1
        if tokens.next_kind() not in CONNECTIVES:
            break
        marks.append((tokens.take()[0],))
    if opened > 0 or tokens.next_kind() != "end":
        raise BadText(tokens.next_column())
    return marks


def _read_operand(tokens, marks):
    """Reads all that stands before a leaf, and the leaf; returns the number of brackets opened before it."""
    opened = 0
    while True:
        kind = tokens.next_kind()
        if kind in QUANTIFIERS:
            marks.append(_quantifier_mark(tokens))
        elif kind == "not" or kind == "(":
            marks.append((tokens.take()[0],))
        else:
            marks.append(tokens.take()[:1] if kind in TRUTH_WORDS else leaf_mark(tokens, False))
            return opened
        if kind == "(":
            opened += 1


def _quantifier_mark(tokens):
    """The word of a quantifier with the tokens of its variable name and its sort."""
    word = tokens.take()[0]
    name = tokens.want("variable")
    tokens.want(":")
    sort = tokens.want("name")
    tokens.want(".")
    return (word, name, sort)


class FormulaBuilder:
    """Round 3: the formulas that are finished, and what waits for those behind it."""

    def __init__(self, vocabulary):
        self.vocabulary = vocabulary
        self.bound = {}
        self.waiting = []
        self.formulas = []

    def add_mark(self, mark):
        """Takes the next mark of the text."""
        kind = mark[0]
        if kind in QUANTIFIERS:
            self.add_quantifier(mark)
        elif kind == ")":
            self.close_bracket()
        elif kind in STRENGTHS:
            self.add_operator(kind)
        elif kind == "(":
            self.waiting.append(mark)
        else:
            self.formulas.append(mark if kind in TRUTH_WORDS else built_leaf(self.vocabulary, mark, self.bound))

    def add_quantifier(self, mark):
        """Binds a variable name until the quantifier ends."""
        word, name, sort = mark
        if sort[1] not in self.vocabulary.sorts:
            raise UnknownName(sort[2])
        if name[1] in self.bound:
            raise NameBound(name[2])
        self.bound[name[1]] = sort[1]
        self.waiting.append((word, name[1], sort[1]))

    def add_operator(self, word):
        """Lets an operator wait, after those before it that bind stronger have got their operands."""
        if word != "not":
            while self.waiting and _comes_first(self.waiting[-1][0], word):
                self.join_last()
        self.waiting.append((word,))

    def close_bracket(self):
        """Ends all that began within a pair of brackets."""
        while self.waiting[-1][0] != "(":
            self.join_last()
        self.waiting.pop()

    def join_last(self):
        """Gives the last operator or quantifier that waits the formulas behind it."""
        mark = self.waiting.pop()
        right = self.formulas.pop()
        if mark[0] in QUANTIFIERS:
            del self.bound[mark[1]]
        if mark[0] in CONNECTIVES:
            self.formulas.append(mark + (self.formulas.pop(), right))
        else:
            self.formulas.append(mark + (right,))

    def whole(self):
        """The formula of all marks."""
        while self.waiting:
            self.join_last()
        return self.formulas[0]


def _comes_first(word, later):
    """True if an operator gets its operands before a later one; brackets and quantifiers wait for their end."""
    strength = STRENGTHS.get(word, 0)
    return strength > STRENGTHS[later] or (word == later and word != "implies")


def built_formula(vocabulary, marks):
    """Round 3: the formula with these marks."""
    builder = FormulaBuilder(vocabulary)
    for mark in marks:
        builder.add_mark(mark)
    return builder.whole()
