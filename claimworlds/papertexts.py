"""Texts of papers."""

from claimworlds.clausetexts import literal_text, read_clause
from claimworlds.errors import BadLine, TextError
from claimworlds.papers import Paper
from claimworlds.terms import TRUTH, is_variable
from claimworlds.termtexts import read_term, term_text

DIGITS = "0123456789"
TURNED = "turned"
EQUAL = " = "
NUMBER_COUNTS = {"given": 1, "drop": 2}


def paper_text(paper):
    """The text of a paper: a line for each step."""
    return "\n".join([_step_text(step) for step in paper.steps])


def _step_text(step):
    """The text of a step."""
    word = step[0]
    if word == "fill":
        pairs = [f"{term_text(variable)}={term_text(term)}" for variable, term in step[2]]
        return " ".join([word, str(step[1])] + pairs)
    if word == "same":
        return f"{word} {term_text(step[1])}"
    if word == "either":
        return f"{word} {term_text(step[1])}{EQUAL}{term_text(step[2])}"
    if word == "more":
        return f"{word} {step[1]} {literal_text(step[2])}"
    if word == "replace":
        place = ".".join([str(number) for number in step[6]])
        turn = [TURNED] if step[3] else []
        return " ".join([word, str(step[1]), str(step[2])] + turn + [str(step[4]), str(step[5]), place])
    return " ".join([word] + [str(number) for number in step[1:]])


def read_paper(vocabulary, text):
    """The paper with this text."""
    if text == "":
        return Paper(())
    steps = []
    for number, line in enumerate(text.split("\n")):
        step = _read_step(vocabulary, line)
        # Many texts of terms have the same meaning, but only one of them is what `paper_text` writes.
        if step is None or _step_text(step) != line:
            raise BadLine(number)
        steps.append(step)
    return Paper(steps)


def _read_step(vocabulary, line):
    """The step of a line that may be written in another way, too; None if it is no step in any way."""
    word, _, rest = line.partition(" ")
    try:
        if word == "fill":
            return _read_fill(vocabulary, rest.split(" "))
        if word == "same":
            return (word, TRUTH if rest == TRUTH[0] else read_term(vocabulary, rest))
        if word == "either":
            return _read_either(vocabulary, rest)
        if word == "more":
            return _read_more(vocabulary, rest)
    except TextError:
        return None
    words = rest.split(" ")
    if word == "replace":
        return _read_replace(words)
    numbers = [_read_number(each) for each in words]
    if None in numbers or len(numbers) != NUMBER_COUNTS.get(word):
        return None
    return (word,) + tuple(numbers)


def _read_number(word):
    """The number that is written in decimal digits, or None."""
    if word == "" or not all([sign in DIGITS for sign in word]):
        return None
    return int(word)


def _read_fill(vocabulary, words):
    """The step of a line number and texts of pairs, or None."""
    line = _read_number(words[0])
    if line is None:
        return None
    pairs = []
    for word in words[1:]:
        left, _, right = word.partition("=")
        variable = read_term(vocabulary, left)
        if not is_variable(variable):
            return None
        pairs.append((variable, read_term(vocabulary, right)))
    return ("fill", line, tuple(pairs))


def _read_either(vocabulary, text):
    """The step of two terms, or of an atom and the truth, or None."""
    one, _, two = text.partition(EQUAL)
    if two != TRUTH[0]:
        return ("either", read_term(vocabulary, one), read_term(vocabulary, two))
    clause = read_clause(vocabulary, one)
    if len(clause) != 1 or clause[0][2] != TRUTH or clause[0][1] == TRUTH:
        return None
    return ("either", clause[0][1], TRUTH)


def _read_more(vocabulary, text):
    """The step of a line number and the text of a literal, or None."""
    number, _, rest = text.partition(" ")
    line = _read_number(number)
    clause = read_clause(vocabulary, rest)
    if line is None or len(clause) != 1:
        return None
    return ("more", line, clause[0])


def _read_replace(words):
    """The step of five numbers and a place, perhaps with the word `turned`, or None."""
    turned = words[2:3] == [TURNED]
    if turned:
        words = words[:2] + words[3:]
    if len(words) != 5:
        return None
    numbers = [_read_number(word) for word in words[:4]]
    place = [_read_number(word) for word in words[4].split(".")]
    if None in numbers + place:
        return None
    i, a, j, b = numbers
    return ("replace", i, a, turned, j, b, tuple(place))
