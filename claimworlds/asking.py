"""Asking whether a claim follows from a book."""

from claimworlds.choosing import drive_run
from claimworlds.clauseforms import clause_form
from claimworlds.errors import NotRefutation, NotSentence
from claimworlds.formulas import denied_formula, is_sentence
from claimworlds.joining import trimmed_paper
from claimworlds.orders import Order
from claimworlds.runs import Run
from claimworlds.selecting import selected_index
from claimworlds.turning import turned_paper

CLAIM_LABEL = ""
WIDEST = 8
LARGEST = 40


class Answer:
    """What came of a question: "follows" with a paper, "not" with an ending, or "open"."""

    def __init__(self, verdict, form, order, paper, ending, rounds):
        self.verdict = verdict
        self.form = form
        self.order = order
        self.paper = paper
        self.ending = ending
        self.rounds = rounds

    @property
    def follows(self):
        """True if the claim follows."""
        return self.verdict == "follows"

    @property
    def used(self):
        """The labels of the sentences whose clauses the paper uses."""
        if self.paper is None:
            return ()
        indexes = {step[1]: True for step in self.paper.steps if step[0] == "given"}
        labels = {label: True for index, label in enumerate(self.form.origins) if index in indexes}
        return tuple(labels)


def ask(book, claim, *, rounds=30, selection="none", beat=3):
    """Asks whether a claim follows from the axioms of a book."""
    vocabulary = book.vocabulary
    order = Order.plain(vocabulary)
    selected_index(order, selection, ())
    if not is_sentence(vocabulary, claim):
        raise NotSentence(CLAIM_LABEL)
    form = clause_form(vocabulary, book.axioms + ((CLAIM_LABEL, denied_formula(claim)),))
    order = Order.plain(form.vocabulary)
    run = Run(form.vocabulary, order, selection, form.clauses, widest=WIDEST, largest=LARGEST)
    word = drive_run(run, rounds, beat=beat)
    if word == "refuted":
        paper = trimmed_paper(run.paper_for(run.known.index(())))
        return Answer("follows", form, order, paper, None, run.takes)
    if word == "ended":
        return Answer("not", form, order, None, run.make_ending(), run.takes)
    return Answer("open", form, order, None, None, run.takes)


def direct_paper(answer):
    """A derivation of the opposite of the denied claim from the axioms, from an answer that follows."""
    if answer.paper is None:
        raise NotRefutation()
    form = answer.form
    first = len([label for label in form.origins if label != CLAIM_LABEL])
    return turned_paper(form.vocabulary, form.clauses, answer.paper, first)
