"""Orders of terms, of literals and of clauses."""

from claimworlds.clauses import literal_key
from claimworlds.errors import BadWeight, NameTaken
from claimworlds.terms import TRUTH, is_variable, subterms, term_key

LEAST_WEIGHT = 1
MOST_WEIGHT = 9


class Order:
    """Names in ascending rank, with their weights."""

    def __init__(self, names, weights):
        self.names = tuple(names)
        self.weights = tuple(weights)
        _check_names(self.names)
        _check_weights(self.names, self.weights)
        # The truth is the name of the lowest rank; like a variable it weighs 1.
        self._ranks = {TRUTH[0]: 0}
        self._loads = {TRUTH[0]: 1}
        for name, weight in zip(self.names, self.weights):
            self._ranks[name] = len(self._ranks)
            self._loads[name] = weight

    @classmethod
    def plain(cls, vocabulary):
        """The order of a vocabulary in which all weights are 1."""
        names = _names_by_arguments(vocabulary.functions) + _names_by_arguments(vocabulary.predicates)
        return cls(names, [1] * len(names))

    def weight(self, term):
        """The sum of the weights of the symbols of a term, an atom or the truth."""
        balance = Balance(self._loads)
        balance.weigh_in((term,), 1)
        return balance.excess

    def compare(self, one, two):
        """How a term stands to another one: "same", "above", "below" or "open".

        The parts behind the first difference have no say but by their weights and variables. So the terms are weighed
        from the innermost parts that hold the difference to the outermost ones.
        """
        path = _difference_path(one, two)
        if not path:
            return "same"
        balance = Balance(self._loads)
        left, right, _ = path.pop()
        balance.weigh_in((left,), 1)
        balance.weigh_in((right,), -1)
        word = balance.word_with(self._compare_names(left, right))
        for left, right, index in reversed(path):
            balance.weigh_in(left[index + 1:], 1)
            balance.weigh_in(right[index + 1:], -1)
            word = balance.word_with(word)
        return word

    def _compare_names(self, one, two):
        """The word for two terms of the same weight that begin with different names."""
        if is_variable(one) or is_variable(two):
            return "open"
        return "above" if self._ranks[one[0]] > self._ranks[two[0]] else "below"

    def compare_literals(self, one, two):
        """How a literal stands to another one.

        Of two literals with the truth the sides `one` tell, and if these are the same, the sign.
        """
        if one[2] == TRUTH and two[2] == TRUTH:
            word = self.compare(one[1], two[1])
            if word == "same" and one[0] != two[0]:
                word = "below" if one[0] else "above"
            return word
        return _compare_collections(_weighing_rows(one), _weighing_rows(two), self.compare)

    def compare_clauses(self, ones, twos):
        """How a collection of literals stands to another one."""
        left = [(literal_key(literal), literal) for literal in ones]
        right = [(literal_key(literal), literal) for literal in twos]
        return _compare_collections(left, right, self.compare_literals)


class Balance:
    """How much more some terms weigh than others, and how much oftener each variable occurs in them."""

    def __init__(self, loads):
        self.loads = loads
        self.excess = 0
        self.counts = {}

    def weigh_in(self, terms, sign):
        """Adds terms to the first ones (the sign is 1) or to the others (it is -1)."""
        for term in terms:
            for part in subterms(term):
                if is_variable(part):
                    self.counts[part] = self.counts.get(part, 0) + sign
                    self.excess += sign
                else:
                    self.excess += sign * self.loads[part[0]]

    def word_with(self, word):
        """How the first terms stand to the others, if for equal weights it is this word."""
        if self.excess != 0:
            word = "above" if self.excess > 0 else "below"
        if word == "above" and any([count < 0 for count in self.counts.values()]):
            return "open"
        if word == "below" and any([count > 0 for count in self.counts.values()]):
            return "open"
        return word


def _difference_path(one, two):
    """The pairs of parts that hold the first difference of two terms, the outermost first; none if they are equal.

    With each pair stands the index of the next pair in both tuples. The last pair differs in its names or sorts.
    """
    path = [(one, two, 0)]
    while path:
        left, right, index = path.pop()
        if left[0] != right[0] or (is_variable(left) and left != right):
            path.append((left, right, index))
            return path
        if not is_variable(left) and index + 1 < len(left):
            path.append((left, right, index + 1))
            path.append((left[index + 1], right[index + 1], 0))
    return path


def _weighing_rows(literal):
    """The weighing collection of a literal, each side behind its key."""
    sides = [(term_key(side), side) for side in literal[1:]]
    return sides if literal[0] else sides + sides


def _compare_collections(ones, twos, compare):
    """How a collection stands to another one, by the order of items. Equal items have equal keys before them."""
    counts = {}
    items = {}
    for rows, sign in ((ones, 1), (twos, -1)):
        for key, item in rows:
            counts[key] = counts.get(key, 0) + sign
            items[key] = item
    left = [items[key] for key in counts if counts[key] > 0]
    right = [items[key] for key in counts if counts[key] < 0]
    if not left and not right:
        return "same"
    words = [[compare(one, two) for two in right] for one in left]
    if all([any([row[index] == "above" for row in words]) for index in range(len(right))]):
        return "above"
    if all([any([word == "below" for word in row]) for row in words]):
        return "below"
    return "open"


def _names_by_arguments(rows):
    """The list of the names of functions or predicates, ascending by the number of their arguments."""
    ranked = sorted([(len(row[1]), index) for index, row in enumerate(rows)])
    return [rows[index][0] for _, index in ranked]


def _check_names(names):
    """Refuses the first name that stands earlier."""
    taken = {}
    for name in names:
        if name in taken:
            raise NameTaken(name)
        taken[name] = True


def _check_weights(names, weights):
    """Refuses the first name whose weight is out of bounds."""
    for name, weight in zip(names, weights):
        if not LEAST_WEIGHT <= weight <= MOST_WEIGHT:
            raise BadWeight(name)
