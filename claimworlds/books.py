"""Books: axioms with their names, over a vocabulary."""

from claimworlds.errors import BadName, NameTaken, NoAxiom, NotSentence, ReservedName
from claimworlds.formulas import is_sentence
from claimworlds.names import is_name, is_reserved


class Book:
    """A vocabulary and axioms, pairs of a name and a sentence of the vocabulary."""

    def __init__(self, vocabulary, axioms):
        self.vocabulary = vocabulary
        self.axioms = tuple([(name, sentence) for name, sentence in axioms])
        self.names = tuple([axiom[0] for axiom in self.axioms])
        _refuse_reserved(vocabulary)
        _check_axioms(vocabulary, self.axioms)

    def __iter__(self):
        return iter(self.axioms)

    def sentence(self, name):
        """The sentence of the axiom with this name, or None."""
        for other, sentence in self.axioms:
            if other == name:
                return sentence
        return None

    def with_axiom(self, name, sentence):
        """A book with one axiom more, the last one."""
        return Book(self.vocabulary, self.axioms + ((name, sentence),))

    def without(self, name):
        """A book without the axiom with this name."""
        if name not in self.names:
            raise NoAxiom(name)
        return Book(self.vocabulary, [axiom for axiom in self.axioms if axiom[0] != name])


def _refuse_reserved(vocabulary):
    """Refuses the first reserved name of a vocabulary."""
    named = [row[0] for row in vocabulary.functions + vocabulary.predicates]
    for name in list(vocabulary.sorts) + named:
        if is_reserved(name):
            raise ReservedName(name)


def _check_axioms(vocabulary, axioms):
    """Refuses the first axiom in which something is wrong."""
    taken = {}
    for name, sentence in axioms:
        if not is_name(name):
            raise BadName(name)
        if name in taken:
            raise NameTaken(name)
        if not is_sentence(vocabulary, sentence):
            raise NotSentence(name)
        taken[name] = True
