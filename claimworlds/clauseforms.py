"""Clause forms: the clauses of sentences, with the functions that were made for them."""

from claimworlds.clauses import clause_key, clause_of, is_tautology, literal_of_piece
from claimworlds.errors import NotSentence
from claimworlds.formulas import is_sentence
from claimworlds.inwards import inward_formula
from claimworlds.narrowing import narrowed_formula, wide_rows
from claimworlds.witnesses import witness_form


class ClauseForm:
    """Clauses with the labels of their sentences, and the witnesses with the vocabulary that names them."""

    def __init__(self, vocabulary, clauses, origins, witnesses):
        self.vocabulary = vocabulary
        self.clauses = clauses
        self.origins = origins
        self.witnesses = witnesses


def clause_form(vocabulary, sentences):
    """The clause form of pairs of a label and a sentence."""
    for label, sentence in sentences:
        if not is_sentence(vocabulary, sentence):
            raise NotSentence(label)
    witnesses = []
    clauses = {}
    origins = []
    for label, sentence in sentences:
        narrow = narrowed_formula(inward_formula(sentence))
        formula, more = witness_form(narrow, 0, len(witnesses))
        witnesses.extend(more)
        for row in wide_rows(formula):
            clause = clause_of([literal_of_piece(piece) for piece in row])
            key = clause_key(clause)
            if not is_tautology(clause) and key not in clauses:
                clauses[key] = clause
                origins.append(label)
    vocabulary = vocabulary.extended([_function_of(witness) for witness in witnesses])
    constants = _missing_constants(vocabulary)
    vocabulary = vocabulary.extended([_function_of(witness) for witness in constants])
    return ClauseForm(vocabulary, tuple(clauses.values()), tuple(origins), tuple(witnesses + constants))


def _function_of(witness):
    """The row of the function of a witness, as in a vocabulary."""
    name, guides, variable, _ = witness
    return (name, tuple([guide[1] for guide in guides]), variable[1])


def _missing_constants(vocabulary):
    """The list of the witnesses for new constants of the sorts without ground terms, in the order of the sorts."""
    reached = {}
    constants = []
    for sort in vocabulary.sorts:
        _reach_sorts(vocabulary, reached)
        if sort not in reached:
            constants.append(("zd" + str(len(constants)), (), ("X", sort), ("true",)))
            reached[sort] = True
    return constants


def _reach_sorts(vocabulary, reached):
    """Adds to the sorts that have ground terms those that have one because of the functions."""
    count = -1
    while count < len(reached):
        count = len(reached)
        for _, arguments, sort in vocabulary.functions:
            if all([argument in reached for argument in arguments]):
                reached[sort] = True
