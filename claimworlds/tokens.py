"""Round 1 of reading: the tokens of a text, and a reader that goes through them."""

from claimworlds.errors import BadText
from claimworlds.names import CAPITALS, SMALL_SIGNS, WORDS, is_name, is_variable_name

SIGNS = "(),:.|="
UNEQUAL = "!="
SPACES = " \n"
# The word is too long for a name, but a token all the same.
LONG_WORD = "predicate"


class Tokens:
    """The tokens of a text and the one that is to be read next.

    A token is a triple: its kind, its characters and its column. The kind is "name", "variable", "end"
    (behind the last token, at the length of the text), or the word or sign itself.
    """

    def __init__(self, text):
        self._tokens = tokens_of(text)
        self._at = 0

    def next_kind(self):
        """The kind of the next token."""
        return self._tokens[self._at][0]

    def next_column(self):
        """The column of the next token."""
        return self._tokens[self._at][2]

    def take(self):
        """Goes past the next token and returns it."""
        token = self._tokens[self._at]
        self._at += 1
        return token

    def want(self, kind):
        """Takes the next token, which must be of this kind."""
        if self.next_kind() != kind:
            raise BadText(self.next_column())
        return self.take()


def tokens_of(text):
    """The tuple of the tokens of a text, the end last."""
    found = []
    at = 0
    while at < len(text):
        if text[at] in SPACES:
            at += 1
        else:
            word = _word_at(text, at)
            found.append((_kind_of(word, at), word, at))
            at += len(word)
    found.append(("end", "", len(text)))
    return tuple(found)


def _word_at(text, at):
    """The characters of the token that begins at a column."""
    if text[at] in SIGNS:
        return text[at]
    if text.startswith(UNEQUAL, at):
        return UNEQUAL
    behind = at
    while behind < len(text) and (text[behind] in SMALL_SIGNS or text[behind] in CAPITALS):
        behind += 1
    if behind == at:
        raise BadText(at)
    return text[at:behind]


def _kind_of(word, column):
    """The kind of the token with these characters."""
    if is_name(word):
        return "name"
    if is_variable_name(word):
        return "variable"
    if word in WORDS or word == LONG_WORD or word == UNEQUAL or word in SIGNS:
        return word
    raise BadText(column)
