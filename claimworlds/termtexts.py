"""Texts of terms."""

from claimworlds.terms import is_variable
from claimworlds.termreading import built_term, term_heads
from claimworlds.tokens import Tokens


def term_text(term):
    """The text of a term, an atom or the truth, with the sorts of its variables."""
    return written_term(term, True)


def written_term(term, sorted_variables):
    """The text of a term, an atom or the truth, with the sorts of its variables or without them."""
    written = []
    waiting = [term]
    while waiting:
        item = waiting.pop()
        if isinstance(item, str):
            written.append(item)
        elif is_variable(item):
            written.append(f"{item[0]}:{item[1]}" if sorted_variables else item[0])
        else:
            written.append(item[0])
            if len(item) > 1:
                waiting.append(")")
                for part in reversed(item[2:]):
                    waiting.append(part)
                    waiting.append(",")
                waiting.append(item[1])
                waiting.append("(")
    return "".join(written)


def read_term(vocabulary, text):
    """The term with this text."""
    tokens = Tokens(text)
    heads = term_heads(tokens, True)
    tokens.want("end")
    return built_term(vocabulary, heads, {})
