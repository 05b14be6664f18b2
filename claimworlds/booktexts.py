"""Texts of books."""

from claimworlds.books import Book
from claimworlds.errors import BadLine, BadName, NameTaken, NoSort, ReservedName, TextError
from claimworlds.formulatexts import formula_text, read_sentence
from claimworlds.names import is_reserved
from claimworlds.vocabularies import Vocabulary

KINDS = ("sort", "function", "predicate", "axiom")


def book_text(book):
    """The text of a book: a line for each sort, function, predicate and axiom."""
    vocabulary = book.vocabulary
    lines = [f"sort {name}" for name in vocabulary.sorts]
    for name, arguments, sort in vocabulary.functions:
        lines.append(f"function {_signature(name, arguments)}: {sort}")
    for name, arguments in vocabulary.predicates:
        lines.append(f"predicate {_signature(name, arguments)}")
    for name, sentence in book.axioms:
        lines.append(f"axiom {name}: {formula_text(sentence)}")
    return "\n".join(lines)


def _signature(name, arguments):
    """A name with the sorts of its arguments behind it."""
    if not arguments:
        return name
    return name + "(" + ",".join(arguments) + ")"


def read_book(text):
    """The book with this text."""
    book = Book(Vocabulary((), (), ()), ())
    if text == "":
        return book
    latest = 0
    for number, line in enumerate(text.split("\n")):
        kind, _, rest = line.partition(" ")
        if kind not in KINDS or KINDS.index(kind) < latest:
            raise BadLine(number)
        latest = KINDS.index(kind)
        book = _longer_book(book, kind, rest)
        if book is None:
            raise BadLine(number)
    return book


def _longer_book(book, kind, rest):
    """The book with one line more, or None if no such line may stand there."""
    try:
        if kind == "axiom":
            return _with_axiom_line(book, rest)
        return _with_name_line(book.vocabulary, kind, rest)
    except (BadName, NameTaken, NoSort, ReservedName, TextError):
        return None


def _with_axiom_line(book, rest):
    """The book with the axiom of a line, or None if its name is reserved; no sentence has the empty text."""
    name, _, text = rest.partition(": ")
    if is_reserved(name):
        return None
    return book.with_axiom(name, read_sentence(book.vocabulary, text))


def _with_name_line(vocabulary, kind, rest):
    """The book without axioms with the name of a line, or None if the line has another form."""
    sorts = vocabulary.sorts
    functions = vocabulary.functions
    predicates = vocabulary.predicates
    head, mark, value = rest.partition(": ")
    if (mark == "") == (kind == "function"):
        return None
    if kind == "sort":
        sorts = sorts + (head,)
    elif kind == "function":
        functions = functions + (_read_signature(head) + (value,),)
    else:
        predicates = predicates + (_read_signature(head),)
    return Book(Vocabulary(sorts, functions, predicates), ())


def _read_signature(text):
    """A name and the tuple of the sorts of its arguments; what is of another form gives what is no name or sort."""
    name, _, rest = text.partition("(")
    if not rest.endswith(")"):
        return (text, ())
    return (name, tuple(rest[:-1].split(",")))
