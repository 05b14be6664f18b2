"""Unifying: widest common fillings of two terms."""

from claimworlds.fillings import Filling
from claimworlds.terms import is_variable, subterms


class Nodes:
    """The terms within some terms as numbered nodes, of which some are joined because they must become equal.

    Each variable is one node, wherever it stands. Terms that share parts may stand for far larger ones, so
    every pair of nodes is joined once only, and every term is made once only.
    """

    def __init__(self):
        self.terms = []
        self.parts = []
        self.links = []
        self.variables = {}

    def enter(self, term):
        """Enters a term and all terms in it, and returns the number of its node."""
        numbers = []
        for part in reversed(subterms(term)):
            if is_variable(part):
                if part not in self.variables:
                    self.variables[part] = self.add_node(part, ())
                numbers.append(self.variables[part])
            else:
                parts = []
                for _ in part[1:]:
                    parts.append(numbers.pop())
                numbers.append(self.add_node(part, tuple(parts)))
        return numbers.pop()

    def add_node(self, term, parts):
        """Adds a node for a term with the nodes of its parts, and returns its number."""
        self.terms.append(term)
        self.parts.append(parts)
        self.links.append(len(self.links))
        return len(self.links) - 1

    def root(self, node):
        """The node that stands for all that are joined with a node; a variable only if all are variables."""
        while self.links[node] != node:
            self.links[node] = self.links[self.links[node]]
            node = self.links[node]
        return node

    def unite(self, one, two):
        """Joins two nodes and then the parts of both; returns False if two names differ."""
        waiting = [(one, two)]
        while waiting:
            pair = waiting.pop()
            one = self.root(pair[0])
            two = self.root(pair[1])
            if one == two:
                continue
            if is_variable(self.terms[one]):
                self.links[one] = two
            elif is_variable(self.terms[two]):
                self.links[two] = one
            else:
                if self.terms[one][0] != self.terms[two][0]:
                    return False
                self.links[one] = two
                for parts in zip(self.parts[one], self.parts[two]):
                    waiting.append(parts)
        return True

    def made_terms(self, start):
        """The terms that a node and all within it become, by their roots; None if one would stand in itself."""
        made = {}
        begun = {}
        waiting = [self.root(start)]
        while waiting:
            node = waiting[-1]
            parts = [self.root(part) for part in self.parts[node]]
            missing = [part for part in parts if part not in made]
            if not missing:
                waiting.pop()
                if node not in made:
                    made[node] = self.made_term(node, [made[part] for part in parts])
                continue
            begun[node] = True
            for part in missing:
                if part in begun:
                    return None
                waiting.append(part)
        return made

    def made_term(self, node, parts):
        """The term of a root with these parts."""
        term = self.terms[node]
        return term if is_variable(term) else (term[0],) + tuple(parts)


def unify_terms(one, two):
    """A widest common filling of two terms, or None."""
    nodes = Nodes()
    start = nodes.enter(one)
    if not nodes.unite(start, nodes.enter(two)):
        return None
    made = nodes.made_terms(start)
    if made is None:
        return None
    return Filling([(variable, made[nodes.root(nodes.variables[variable])]) for variable in nodes.variables])
