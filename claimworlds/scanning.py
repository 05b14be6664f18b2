"""Going through a term from the inside to the outside while terms in it are rewritten."""

from claimworlds.terms import is_variable


class Scan:
    """Stands at a term in a larger one. What lies behind it, its own parts too, is done with.

    Around the term are frames: a name, the parts that are done with, and the parts that wait, the next one last.
    With a part that waits stands a dict of terms for its variables which are done with.
    """

    def __init__(self, term):
        self.frames = []
        self.current = None
        self._go_to((term, {}), None)

    def current_place(self):
        """The place of the current term in the whole."""
        return tuple([len(done) for _, done, _ in self.frames])

    def leave(self):
        """Goes on, because there is nothing to rewrite at the current term; it becomes None behind the last one."""
        self._go_to(None, self.current)

    def put(self, pattern, filled):
        """Puts a filled pattern in the place of the current term. The terms of the dict are done with."""
        self._go_to((pattern, filled), None)

    def _go_to(self, item, left):
        """Goes to the next term that is no variable and has only parts that are done with.

        It is looked for in the item; if that is None, behind the term that was left.
        """
        while True:
            if item is None:
                if not self.frames:
                    self.current = None
                    return
                name, done, waiting = self.frames[-1]
                done.append(left)
                if not waiting:
                    self.frames.pop()
                    self.current = (name,) + tuple(done)
                    return
                item = waiting.pop()
            pattern, filled = item
            if is_variable(pattern):
                left = filled.get(pattern, pattern)
                item = None
            elif len(pattern) == 1:
                self.current = pattern
                return
            else:
                waiting = [(part, filled) for part in pattern[:0:-1]]
                item = waiting.pop()
                self.frames.append((pattern[0], [], waiting))
