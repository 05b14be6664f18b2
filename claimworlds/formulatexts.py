"""Texts of formulas."""

from claimworlds.formulareading import STRENGTHS, built_formula, formula_marks
from claimworlds.formulas import CONNECTIVES, QUANTIFIERS, TRUTH_WORDS
from claimworlds.termtexts import written_term
from claimworlds.tokens import Tokens


def formula_text(formula):
    """The text of a formula, with brackets only where they are needed."""
    written = []
    waiting = [formula]
    while waiting:
        item = waiting.pop()
        if isinstance(item, str):
            written.append(item)
        else:
            waiting.extend(_pieces(item)[::-1])
    return "".join(written)


def _pieces(formula):
    """The list of the strings and formulas whose texts, one behind the other, are the text of a formula."""
    kind = formula[0]
    if kind in TRUTH_WORDS:
        return [kind]
    if kind == "atom":
        return [written_term(formula[1], False)]
    if kind == "same":
        return [_equation_text(formula, "=")]
    if kind in QUANTIFIERS:
        return [f"{kind} {formula[1]}:{formula[2]}. ", formula[3]]
    if kind == "not":
        return _denied_pieces(formula[1])
    left = _operand(formula[1], kind, kind == "implies")
    return left + [f" {kind} "] + _operand(formula[2], kind, kind != "implies")


def _denied_pieces(formula):
    """The pieces of a denied formula."""
    if formula[0] == "same":
        return [_equation_text(formula, "!=")]
    return ["not "] + _operand(formula, "not", False)


def _equation_text(equation, sign):
    """The text of an equation with its sign."""
    return f"{written_term(equation[1], False)} {sign} {written_term(equation[2], False)}"


def _operand(formula, operator, is_far):
    """The pieces of an operand; it is far if it stands on the side to which its operator does not associate."""
    kind = formula[0]
    if kind in QUANTIFIERS:
        return ["(", formula, ")"]
    if kind in CONNECTIVES and (STRENGTHS[kind] < STRENGTHS[operator] or (kind == operator and is_far)):
        return ["(", formula, ")"]
    return [formula]


def read_sentence(vocabulary, text):
    """The sentence with this text."""
    return built_formula(vocabulary, formula_marks(Tokens(text)))
