"""The checker of papers: which steps are allowed, and their lines."""

from claimworlds.clauses import clause_of, filled_clause, is_clause
from claimworlds.errors import BadPlace, BadStep, NoSteps, NotRefutation
from claimworlds.fillings import Filling
from claimworlds.terms import TRUTH, are_alike, are_same, is_atom, is_term, is_variable, part_at, put_at
from claimworlds.wholes import is_index, is_whole

STEP_LENGTHS = {"given": 2, "fill": 3, "same": 2, "either": 3, "more": 3, "replace": 7, "drop": 3}


def all_lines(vocabulary, given, paper):
    """The tuple of the lines of a paper."""
    lines = []
    for index, step in enumerate(paper.steps):
        line = line_of(vocabulary, given, lines, step)
        if line is None:
            raise BadStep(index)
        lines.append(line)
    return tuple(lines)


def last_line(vocabulary, given, paper):
    """The last line of a paper."""
    lines = all_lines(vocabulary, given, paper)
    if not lines:
        raise NoSteps()
    return lines[-1]


def is_refutation(vocabulary, given, paper):
    """True if all steps of a paper are allowed and its last line is the empty clause."""
    try:
        return last_line(vocabulary, given, paper) == ()
    except (BadStep, NoSteps):
        return False


def refuting_lines(vocabulary, given, paper):
    """The lines of a paper, which must be a refutation."""
    try:
        lines = all_lines(vocabulary, given, paper)
    except BadStep:
        raise NotRefutation() from None
    if not lines or lines[-1] != ():
        raise NotRefutation()
    return lines


def line_of(vocabulary, given, lines, step):
    """The line of a step behind other lines, or None if the step is not allowed."""
    if not isinstance(step, tuple) or len(step) == 0 or not isinstance(step[0], str):
        return None
    word = step[0]
    if len(step) != STEP_LENGTHS.get(word):
        return None
    if word == "given":
        return given[step[1]] if is_index(step[1], len(given)) else None
    if word == "same":
        return _same_line(vocabulary, step[1])
    if word == "either":
        return _either_line(vocabulary, step[1], step[2])
    if not is_index(step[1], len(lines)):
        return None
    line = lines[step[1]]
    if word == "fill":
        return _filled_line(vocabulary, line, step[2])
    if word == "more":
        return clause_of(line + (step[2],)) if is_clause(vocabulary, (step[2],)) else None
    if word == "drop":
        return _shorter_line(line, step[2])
    return _replaced_line(lines, line, step)


def _same_line(vocabulary, one):
    """The line of a step that says that a term is itself."""
    if one == TRUTH or is_term(vocabulary, one):
        return ((True, one, one),)
    return None


def _either_line(vocabulary, one, two):
    """The line of a step that says that two sides are the same or are not."""
    if two == TRUTH:
        is_allowed = is_atom(vocabulary, one)
    else:
        is_allowed = are_alike(vocabulary, one, two)
    return clause_of(((True, one, two), (False, one, two))) if is_allowed else None


def _filled_line(vocabulary, line, pairs):
    """A line filled by pairs of a variable and a term."""
    if not isinstance(pairs, tuple):
        return None
    taken = {}
    for pair in pairs:
        if not isinstance(pair, tuple) or len(pair) != 2 or not are_alike(vocabulary, pair[0], pair[1]):
            return None
        if not is_variable(pair[0]) or pair[0] in taken:
            return None
        taken[pair[0]] = True
    return filled_clause(line, Filling(pairs))


def _shorter_line(line, index):
    """A line without a negative literal with two equal sides."""
    if not is_index(index, len(line)):
        return None
    positive, one, two = line[index]
    return None if positive or not are_same(one, two) else line[:index] + line[index + 1:]


def _replaced_line(lines, line, step):
    """The line of a replace step whose first line is this one."""
    a, turned, j, b, place = step[2:]
    if not is_index(a, len(line)) or not is_index(j, len(lines)) or not is_index(b, len(lines[j])):
        return None
    if not line[a][0] or not (turned is True or turned is False) or not _is_place(place):
        return None
    if line[a][2] == TRUTH and (turned or len(place) != 1):
        return None
    left, right = (line[a][2], line[a][1]) if turned else line[a][1:]
    literal = _replaced_literal(lines[j][b], place, left, right)
    if literal is None:
        return None
    rest = line[:a] + line[a + 1:] + lines[j][:b] + lines[j][b + 1:]
    return clause_of(rest + (literal,))


def _is_place(value):
    """True for a tuple of a number of a side and numbers of parts."""
    if not isinstance(value, tuple) or len(value) == 0 or not is_index(value[0], 2):
        return False
    return all([is_whole(number) and number >= 0 for number in value])


def _replaced_literal(literal, place, left, right):
    """The triple of a literal in which one term stands in the place of another; None if that does not stand there."""
    sides = list(literal[1:])
    side = sides[place[0]]
    try:
        if not are_same(part_at(side, place[1:]), left):
            return None
    except BadPlace:
        return None
    sides[place[0]] = put_at(side, place[1:], right)
    return (literal[0], sides[0], sides[1])
