"""Point 68, of it the class `Ending`."""

import unittest

from claimworlds.endings import Ending
from claimworlds.papers import Paper
from land import PLAIN, clauses


class TestEnding(unittest.TestCase):

    def test_fields(self):
        paper = Paper([("given", 0)])
        ending = Ending(PLAIN, "first", tuple(clauses("r")), ((("reflect", 0, 0), paper),), (paper, paper))
        self.assertIs(ending.order, PLAIN)
        self.assertEqual(ending.selection, "first")
        self.assertEqual(ending.clauses, tuple(clauses("r")))
        self.assertEqual(ending.reasons, ((("reflect", 0, 0), paper),))
        self.assertEqual(ending.covers, (paper, paper))
        ending = Ending(order=PLAIN, selection="none", clauses=(), reasons=(), covers=())
        self.assertEqual((ending.clauses, ending.reasons, ending.covers), ((), (), ()))

    def test_lists_that_are_changed_afterwards(self):
        paper = Paper([("given", 0)])
        rows = [clauses("r", "p(a)"), [(("reflect", 0, 0), paper)], [paper]]
        ending = Ending(PLAIN, "none", *rows)
        for row in rows:
            row.append(None)
        rows[0][0] = ()
        self.assertEqual(ending.clauses, tuple(clauses("r", "p(a)")))
        self.assertEqual(ending.reasons, ((("reflect", 0, 0), paper),))
        self.assertEqual(ending.covers, (paper,))
        for field in (ending.clauses, ending.reasons, ending.covers):
            self.assertIsInstance(field, tuple)


if __name__ == "__main__":
    unittest.main()
