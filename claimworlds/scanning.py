"""Going through a term while terms in it are rewritten."""

from claimworlds.fillings import filled_term
from claimworlds.terms import is_variable


class Scan:
    """Stands at a term in a larger one, at each one that begins with one of some names.

    It stands there before it goes into the parts, for a rewriting at the outside may spare those inside, and once more
    behind them if something was put there. What lies behind the current term is done with. Around it are frames: a
    name, the parts that are done with, the parts that wait, the next one last, and how often something had been put
    before. With a part that waits stands a dict of terms for its variables which are done with.
    """

    def __init__(self, term, names):
        self.names = names
        self.frames = []
        self.current = None
        # The part that the current term is, with its dict, if its own parts are not done with.
        self.entered = None
        self.puts = 0
        self._go_to((term, {}), None)

    def current_place(self):
        """The place of the current term in the whole."""
        return tuple([len(done) for _, done, _, _ in self.frames])

    def leave(self):
        """Goes on, because there is nothing to rewrite at the current term; it becomes None behind the last one."""
        if self.entered is None:
            self._go_to(None, self.current)
        else:
            self._go_to(self._first_part(self.entered), None)

    def put(self, pattern, filled):
        """Puts a filled pattern in the place of the current term, whose parts the terms of the dict are taken from."""
        self.puts += 1
        if self.entered is None:
            self._go_to((pattern, filled), None)
        else:
            self._go_to((filled_term(pattern, filled), {}), None)

    def _first_part(self, item):
        """Makes the frame of an item, and returns its first part."""
        pattern, filled = item
        waiting = [(part, filled) for part in pattern[:0:-1]]
        first = waiting.pop()
        self.frames.append((pattern[0], [], waiting, self.puts))
        return first

    def _go_to(self, item, left):
        """Goes to the next term to stand at, in an item or, if that is None, behind a term that was left."""
        self.entered = None
        self.current = None
        while item is not None or self.frames:
            if item is None:
                name, done, waiting, puts = self.frames[-1]
                done.append(left)
                if waiting:
                    item = waiting.pop()
                    continue
                self.frames.pop()
                left = (name,) + tuple(done)
                if puts != self.puts and self._stops_at(name):
                    self.current = left
                    return
                continue
            pattern, filled = item
            if is_variable(pattern):
                left = filled.get(pattern, pattern)
                item = None
            elif self._stops_at(pattern[0]):
                self.entered = item if len(pattern) > 1 else None
                self.current = filled_term(pattern, filled)
                return
            elif len(pattern) == 1:
                left = pattern
                item = None
            else:
                item = self._first_part(item)

    def _stops_at(self, name):
        """True if it stands at terms with a name; the empty name stands for all of them."""
        return name in self.names or "" in self.names
