"""Points 59 to 63: runs, what taking and giving does, twins and played runs."""

import unittest

from chances import SMALL, Chances
from claimworlds.choosing import choose_next, drive_run
from claimworlds.errors import BadClause, NoClause, NoSelection, NotWaiting, RunOver
from claimworlds.insides import are_variants
from claimworlds.orders import Order
from claimworlds.runs import Run, played_run
from land import A, B, LAND, PLAIN, TRUTH, X, clause, clauses, f
from plainruns import PlainRun
from runchecks import check_lists, check_run, state_of, texts


def deep_term(depth, made):
    for _ in range(depth):
        made = f(made)
    return made


def run_of(*lines, selection="none", order=PLAIN, **bounds):
    return Run(LAND, order, selection, clauses(*lines), **bounds)


class RunCase(unittest.TestCase):

    def takes(self, run, number, *registered):
        """Taking a clause registers exactly these, with the next numbers."""
        begun = len(run.known)
        numbers = run.take(number)
        self.assertEqual(numbers, tuple(range(begun, len(run.known))))
        found = run.known[begun:]
        self.assertEqual(len(found), len(registered), texts(found))
        for one, line in zip(found, registered):
            self.assertTrue(are_variants(one, clause(line)), texts(found))
        check_run(self, run)
        return numbers

    def statuses(self, run, *wanted):
        self.assertEqual(tuple(run.status(number) for number in range(len(run.known))), wanted)


class TestBeginning(RunCase):

    def test_fields(self):
        run = run_of("p(a)", "not p(b)", selection="first")
        self.assertIs(run.vocabulary, LAND)
        self.assertIs(run.order, PLAIN)
        self.assertEqual(run.selection, "first")
        self.assertEqual(run.given, tuple(clauses("p(a)", "not p(b)")))
        self.assertEqual(run.known, run.given)
        self.assertEqual((run.kept, run.taken, run.takes, run.word, run.deeds), ((0, 1), (), 0, "going", ()))
        self.assertEqual((run.kept_clauses(), run.taken_clauses()), (run.known, ()))
        check_run(self, run)

    def test_a_list_that_is_changed_afterwards(self):
        made = clauses("p(a)")
        run = Run(vocabulary=LAND, order=PLAIN, selection="none", clauses=made)
        made.append(())
        self.assertEqual(run.known, tuple(clauses("p(a)")))

    def test_no_clauses(self):
        run = run_of()
        self.assertEqual((run.word, run.given, run.known, run.all_reasons()), ("ended", (), (), ()))
        check_run(self, run)

    def test_clauses_that_stand_several_times(self):
        run = run_of("p(a)", "p(a)", "a = a")
        self.statuses(run, "waiting", "waiting", "waiting")
        self.assertEqual(len(run.given), 3)

    def test_no_selection(self):
        for word in ("", "None", "last"):
            for made in ([], [None], clauses("r")):
                with self.assertRaises(NoSelection) as caught:
                    Run(LAND, PLAIN, word, made)
                self.assertEqual(caught.exception.selection, word)

    def test_bad_clauses(self):
        bad = (None, 3, "r", True, ((True, A, B),), ((1, B, A),), ((True, ("zz",), A),), clause("r") * 2, (None,), (TRUTH,), ((),))
        for value in bad:
            for index in range(3):
                made = clauses("r", "p(a)")
                made.insert(index, value)
                with self.assertRaises(BadClause) as caught:
                    Run(LAND, PLAIN, "none", made + [None])
                self.assertEqual(caught.exception.index, index)

    def test_large_clauses_wait_all_the_same(self):
        run = run_of("p(a) | p(b) | p(c)", "q(f(f(a)),f(f(b)))", widest=2, largest=3)
        self.statuses(run, "waiting", "waiting")
        run.take(0)
        run.take(1)
        self.statuses(run, "taken", "taken")
        self.assertEqual(run.word, "ended")

    def test_deep_clauses(self):
        """Clauses that the program made may be nested deeper than what is passed otherwise."""
        def p_of(part):
            return (True, ("p", part), TRUTH)

        def pair(one, two):
            return (p_of(one), (True, ("q", two, B), TRUTH))

        deep, again, other = [deep_term(2000, name) for name in (A, A, B)]
        for bad in ((p_of(deep), p_of(again)), (p_of(other), p_of(deep)), ((True, deep, other),)):
            with self.assertRaises(BadClause) as caught:
                Run(LAND, PLAIN, "none", [(p_of(deep), p_of(other)), ((True, other, deep),), bad])
            self.assertEqual(caught.exception.index, 2)
        run = Run(LAND, PLAIN, "none", [pair(X, X), pair(deep, other), pair(deep, again)])
        self.assertEqual([run.take(number) for number in range(3)], [(), (), ()])
        self.statuses(run, "taken", "taken", "thrown")


class TestWords(RunCase):

    def test_each_word(self):
        run = run_of("p(f(X:s)) | r", "not p(f(a)) | q(a,a) | p(b)", selection="first", widest=2)
        self.assertEqual(run.word, "going")
        run.take(0)
        run.take(1)
        self.assertEqual(run.word, "stuck")
        self.assertEqual(run.numbers("aside"), (2,))
        check_run(self, run)
        run = run_of("r")
        run.take(0)
        self.assertEqual(run.word, "ended")
        run = run_of("r", "not r")
        run.take(0)
        self.assertEqual(run.word, "going")
        run.take(1)
        self.assertEqual(run.word, "refuted")

    def test_the_empty_clause_at_first(self):
        run = run_of("r", "false")
        self.assertEqual((run.word, run.kept), ("refuted", (0, 1)))
        self.statuses(run, "waiting", "waiting")
        check_run(self, run)
        self.assertRaises(RunOver, run.take, 1)

    def test_numbers_that_there_are_not(self):
        for run in (run_of("r", "not r"), run_of("false", "r"), run_of()):
            count = len(run.known)
            for number in (-1, -2, count, count + 1, 1000):
                for method in (run.status, run.take, run.paper_for, run.cover_for):
                    with self.assertRaises(NoClause) as caught:
                        method(number)
                    self.assertEqual(caught.exception.number, number)

    def test_numbers_of_each_status(self):
        run = run_of("r", "r | p(a)", "p(X:s) | q(X:s,X:s)", "not q(a,a) | p(b) | p(c)", "q(b,c)", widest=2)
        for number in (0, 1, 2, 3):
            run.take(number)
        self.assertEqual(run.numbers("thrown"), (1,))
        self.assertEqual(run.numbers("taken"), (0, 2, 3))
        self.assertEqual(run.numbers("aside"), (5,))
        self.assertEqual(run.numbers("waiting"), (4,))
        self.assertEqual(run.kept, (0, 2, 3, 4, 5))
        check_run(self, run)


class TestErrors(RunCase):

    def test_run_over(self):
        ended = run_of("r")
        ended.take(0)
        self.assertRaises(RunOver, ended.take, 0)
        stuck = run_of("p(f(X:s)) | r", "not p(f(a)) | q(a,a) | p(b)", selection="first", widest=2)
        stuck.take(0)
        stuck.take(1)
        self.assertRaises(RunOver, stuck.take, 2)
        refuted = run_of("r", "not r", "p(a)")
        refuted.take(1)
        refuted.take(0)
        self.assertEqual(refuted.word, "refuted")
        before = state_of(refuted)
        for number in range(len(refuted.known)):
            self.assertRaises(RunOver, refuted.take, number)
        self.assertRaises(NoClause, refuted.take, 99)
        self.assertRaises(NoClause, ended.take, -1)
        self.assertEqual(state_of(refuted), before)

    def test_not_waiting(self):
        run = run_of("r", "r | p(a)", "p(b)", "p(c)")
        run.take(0)
        run.take(1)
        before = state_of(run)
        for number in (0, 1):
            with self.assertRaises(NotWaiting) as caught:
                run.take(number)
            self.assertEqual(caught.exception.number, number)
        self.assertEqual(state_of(run), before)
        run = run_of("p(f(X:s)) | r", "not p(f(a)) | q(a,a) | p(b)", "r | q(b,b)", selection="first", widest=2)
        run.take(0)
        run.take(1)
        self.assertEqual(run.numbers("aside"), (3,))
        self.assertRaises(NotWaiting, run.take, 3)


class TestTaking(RunCase):

    def test_ordinary(self):
        run = run_of("p(X:s) | r", "not p(a) | q(a,a)")
        self.takes(run, 0)
        self.statuses(run, "taken", "waiting")
        run = run_of("p(a)", "not p(X:s) | r", selection="first")
        self.takes(run, 0)
        self.takes(run, 1, "r")
        self.statuses(run, "taken", "taken", "waiting")
        self.assertEqual(run.deeds, (("take", 0), ("take", 1)))

    def test_a_tautology(self):
        lines = (
            "r | not r", "a = a", "p(X:s) | p(Y:s) | X:s = X:s", "p(a) | q(a,a) | r | not p(b) | not r", "a != b | r | a = b",
            "not r | true = true | p(a)", "p(f(X:s)) | not q(X:s,Y:s) | q(X:s,Y:s)", "a != a | b = b | r",
        )
        run = run_of(*lines)
        for number in range(len(lines)):
            self.takes(run, number)
            self.assertEqual(run.status(number), "thrown")
        self.assertEqual((run.word, run.takes), ("ended", len(lines)))

    def test_a_kept_clause_inside(self):
        # The one inside is waiting, then taken.
        run = run_of("p(a) | r", "r")
        self.takes(run, 0)
        self.statuses(run, "thrown", "waiting")
        run = run_of("p(X:s) | r", "p(a) | r | q(a,a)")
        self.takes(run, 0)
        self.takes(run, 1)
        self.statuses(run, "taken", "thrown")
        # A clause that stands twice: one of the two stays.
        run = run_of("p(a) | r", "p(a) | r")
        self.takes(run, 1)
        self.takes(run, 0)
        self.statuses(run, "taken", "thrown")
        # It is aside.
        run = run_of("p(f(X:s)) | r", "not p(f(a)) | q(a,a) | p(b)", "r | q(a,a) | p(b) | p(c)", selection="first", widest=2)
        self.takes(run, 0)
        self.takes(run, 1, "r | q(a,a) | p(b)")
        self.statuses(run, "taken", "taken", "waiting", "aside")
        self.takes(run, 2)
        self.statuses(run, "taken", "taken", "thrown", "aside")

    def test_a_thrown_clause_inside_does_not_count(self):
        """Clause 1 is thrown, and its helper, clause 0, after it. So nothing that is kept is inside clause 3."""
        run = run_of("f(a) = c", "p(f(a))", "c = b", "p(f(a)) | r")
        self.takes(run, 0)
        self.takes(run, 1, "p(c)")
        self.statuses(run, "taken", "thrown", "waiting", "waiting", "taken")
        self.takes(run, 2, "f(a) = b", "p(b)")
        self.statuses(run, "thrown", "thrown", "taken", "waiting", "thrown", "waiting", "waiting")
        self.takes(run, 3)
        self.assertEqual(run.status(3), "taken")
        # Where a clause is simplified the thrown ones count: p(f(a)) is inside the result p(f(a)) | q(b,b).
        run = run_of("f(a) = c", "p(f(a))", "c = b", "p(f(a)) | q(c,c)")
        for number in range(3):
            run.take(number)
        self.takes(run, 3)
        self.assertEqual(run.status(3), "thrown")

    def test_simplified_to_a_tautology(self):
        run = run_of("f(X:s) = X:s", "p(f(a)) | not p(a)", "r")
        self.takes(run, 0)
        self.takes(run, 1)
        self.statuses(run, "taken", "thrown", "waiting")

    def test_simplified_to_one_that_is_known(self):
        for line in ("p(a)", "p(X:s)"):
            run = run_of("f(X:s) = X:s", "p(f(a))", line)
            self.takes(run, 0)
            self.takes(run, 1)
            self.statuses(run, "taken", "thrown", "waiting")
        # The known one is thrown itself.
        run = run_of("f(X:s) = X:s", "p(a) | p(b)", "p(a)", "p(f(a)) | p(f(b))")
        self.takes(run, 1)
        self.statuses(run, "waiting", "thrown", "waiting", "waiting")
        self.takes(run, 0)
        self.takes(run, 3)
        self.assertEqual(run.status(3), "thrown")

    def test_simplified_to_a_new_one(self):
        run = run_of("f(X:s) = X:s", "p(f(a)) | r")
        self.takes(run, 0)
        self.assertEqual(self.takes(run, 1, "p(a) | r"), (2,))
        self.statuses(run, "taken", "thrown", "taken")

    def test_simplified_to_a_new_one_that_is_too_large(self):
        run = run_of("f(X:s) = X:s", "p(f(a)) | r | q(g(a,a),g(b,b))", widest=2, largest=2)
        self.takes(run, 0)
        self.takes(run, 1, "p(a) | r | q(g(a,a),g(b,b))")
        self.statuses(run, "taken", "thrown", "taken")

    def test_simplified_to_the_empty_clause(self):
        run = run_of("r", "not r", "p(a)", selection="first")
        self.takes(run, 0)
        self.assertEqual(self.takes(run, 1, "false"), (3,))
        self.statuses(run, "taken", "thrown", "waiting", "taken")
        self.assertEqual(run.word, "refuted")

    def test_taken_clauses_that_are_thrown(self):
        run = run_of("p(a) | r", "p(f(b)) | q(b,b)", "r", "f(b) = b")
        self.takes(run, 0)
        self.takes(run, 1)
        self.takes(run, 2)
        self.statuses(run, "thrown", "taken", "taken", "waiting")
        self.takes(run, 3, "p(b) | q(b,b)")
        self.statuses(run, "thrown", "thrown", "taken", "taken", "waiting")

    def test_only_the_fresh_clause_is_a_helper_in_rule_three(self):
        order = Order(PLAIN.names, [5 if name == "f" else 1 for name in PLAIN.names])
        run = run_of("q(f(a),f(b)) | r", "f(b) = b", "f(a) = a", order=order)
        self.takes(run, 0)
        self.takes(run, 1, "q(f(a),b) | r")
        self.statuses(run, "thrown", "taken", "waiting", "waiting")
        self.takes(run, 3)
        self.takes(run, 2, "q(a,b) | r")
        self.statuses(run, "thrown", "taken", "taken", "thrown", "waiting")

    def test_a_taken_clause_is_simplified_to_a_known_one(self):
        run = run_of("p(f(b)) | q(b,b)", "p(b)", "f(b) = b")
        self.takes(run, 0)
        self.takes(run, 2)
        self.statuses(run, "thrown", "waiting", "taken")
        run = run_of("p(f(b)) | not p(b)", "f(b) = b")
        self.takes(run, 0)
        self.takes(run, 1)
        self.statuses(run, "thrown", "taken")

    def test_a_taken_clause_becomes_the_empty_one(self):
        """The take is over at once: clause 2 is not looked at any more, and no steps are made."""
        run = run_of("not p(a) | r", "not p(a) | not p(b)", "not p(c) | q(a,a)", "p(X:s)")
        for number in range(3):
            self.takes(run, number)
        self.assertEqual(self.takes(run, 3, "r", "false"), (4, 5))
        self.statuses(run, "thrown", "thrown", "taken", "taken", "waiting", "waiting")
        self.assertEqual(run.word, "refuted")

    def test_a_clause_that_becomes_the_empty_one(self):
        run = run_of("p(f(a)) | r", "f(a) != b", "q(a,a)", "f(a) = b")
        self.takes(run, 0)
        self.takes(run, 1)
        self.takes(run, 3, "false")
        self.statuses(run, "taken", "taken", "waiting", "thrown", "taken")

    def test_the_empty_clause_as_a_conclusion(self):
        """What was registered before stays, and nothing is registered behind it."""
        run = run_of(
            "not p(X:s) | r", "not p(X:s) | q(X:s,X:s)", "not q(a,a)", "not p(X:s) | q(b,b)", "p(a)", selection="first")
        for number in range(4):
            self.takes(run, number)
        self.assertEqual(self.takes(run, 4, "r", "false"), (5, 6))
        self.statuses(run, "taken", "taken", "taken", "taken", "taken", "waiting", "waiting")
        self.assertRaises(RunOver, run.take, 5)

    def test_conclusions(self):
        """A conclusion that is a tautology, one that is known, one that is new."""
        run = run_of("not p(X:s) | p(f(X:s)) | r", "p(f(a)) | r | q(a,a)", "p(a)", selection="first")
        self.takes(run, 0)
        self.takes(run, 2, "p(f(a)) | r")
        run = run_of("not p(X:s) | r | not q(X:s,a)", "p(a) | q(a,a)", "p(b)", "not q(b,a)", selection="first")
        self.takes(run, 0)
        self.takes(run, 1)
        self.takes(run, 2)
        self.statuses(run, "taken", "taken", "taken", "waiting")
        run = run_of("p(a) | r", "not p(a) | not r | q(a,a)")
        self.takes(run, 0)
        self.takes(run, 1)

    def test_conclusions_that_are_too_large(self):
        run = run_of("p(X:s) | q(X:s,a)", "not q(f(Y:s),Z:s) | r", widest=1)
        self.takes(run, 0)
        self.takes(run, 1, "p(f(X:s)) | r")
        self.statuses(run, "taken", "taken", "aside")
        run = run_of("p(f(f(a)))", "not p(Y:s) | p(f(Y:s))", selection="first", largest=4)
        self.takes(run, 0)
        self.takes(run, 1, "p(f(f(f(a))))")
        self.statuses(run, "taken", "taken", "aside")

    def test_conclusions_are_simplified_by_all_taken_clauses(self):
        run = run_of("f(X:s) = X:s", "not p(X:s) | q(f(a),X:s) | q(X:s,X:s)", "p(b)", selection="first")
        run.take(0)
        run.take(1)
        check_run(self, run)
        run.take(2)
        self.assertIn(clause("q(a,b) | q(b,b)"), run.known)
        check_run(self, run)

    def test_conclusions_of_one_take_know_one_another(self):
        """Two steps have the same conclusion; it is registered once."""
        run = run_of("p(a)", "p(b)", "not p(X:s) | r", selection="first")
        self.takes(run, 0)
        self.takes(run, 1)
        self.takes(run, 2, "r")

    def test_against_the_words_of_the_document(self):
        chances = Chances(61)
        words = []
        statuses = []
        for _ in range(500):
            selection = chances.random.choice(["none", "first", "heaviest"])
            given = [chances.clause(chances.random.choice([1, 1, 2, 3]), 2) for _ in range(chances.random.randint(1, 6))]
            widest, largest = chances.random.choice([(8, 40), (2, 5), (1, 4), (3, 8)])
            order = chances.order()
            run = Run(SMALL, order, selection, given, widest=widest, largest=largest)
            plain = PlainRun(SMALL, order, selection, given, widest, largest)
            for _ in range(chances.random.randint(1, 9)):
                if chances.random.random() < 0.1:
                    more = chances.clause(2, 2)
                    run.give(more)
                    plain.give(more)
                if run.word != "going" or len(run.known) > 100:
                    break
                number = chances.random.choice(run.numbers("waiting") + (choose_next(run),) * 5)
                self.assertEqual(run.take(number), plain.take(number))
                self.assertEqual(run.known, tuple(plain.clauses))
                self.assertEqual([run.status(number) for number in range(len(run.known))], plain.statuses)
                if chances.random.random() < 0.3:
                    check_run(self, run)
            check_run(self, run)
            words.append(run.word)
            statuses.extend(plain.statuses)
        for word in ("refuted", "going", "stuck", "ended"):
            self.assertIn(word, words)
        for status in ("waiting", "taken", "aside", "thrown"):
            self.assertGreater(statuses.count(status), 10)


class TestGiving(RunCase):

    def gives(self, run, line):
        number = len(run.known)
        self.assertEqual(run.give(clause(line)), number)
        self.assertEqual((run.known[number], run.status(number)), (clause(line), "waiting"))
        self.assertEqual((run.given[-1], run.deeds[-1]), (clause(line), ("give", clause(line))))
        check_run(self, run)

    def test_at_any_time(self):
        run = run_of("r")
        self.gives(run, "p(a)")
        run.take(0)
        run.take(1)
        self.assertEqual(run.word, "ended")
        self.gives(run, "p(a)")
        self.assertEqual(run.word, "going")
        run.take(2)
        self.assertEqual(run.word, "ended")
        self.gives(run, "not r")
        run.take(3)
        self.assertEqual(run.word, "refuted")
        self.gives(run, "p(b)")
        self.assertEqual(run.word, "refuted")
        self.gives(run, "false")
        self.assertRaises(RunOver, run.take, 5)

    def test_a_stuck_run(self):
        run = run_of("p(f(X:s)) | r", "not p(f(a)) | q(a,a) | p(b)", selection="first", widest=2)
        run.take(0)
        run.take(1)
        self.assertEqual(run.word, "stuck")
        self.gives(run, "p(a) | p(b) | p(c)")
        self.assertEqual(run.word, "going")

    def test_whatever_is_known(self):
        run = run_of("r")
        for line in ("r", "r | p(a)", "a = a", "false"):
            self.gives(run, line)
        self.assertEqual((run.word, len(run.known), len(run.given)), ("refuted", 5, 5))

    def test_bad_clauses(self):
        run = run_of("r", "not r", selection="first")
        run.take(0)
        run.take(1)
        before = state_of(run)
        for value in (None, 3, "r", ((True, A, B),), ((1, B, A),), (None,), clause("r") + clause("r"), ((True, ("d",), A),)):
            with self.assertRaises(BadClause) as caught:
                run.give(value)
            self.assertEqual(caught.exception.index, 3)
        self.assertEqual(state_of(run), before)


class TestTwins(RunCase):

    def test_deeds(self):
        run = run_of("r", "r | p(a)", selection="first")
        run.take(0)
        for number in (0, 9, -1):
            self.assertRaises((NotWaiting, NoClause), run.take, number)
        self.assertRaises(BadClause, run.give, None)
        run.give(clause("p(b)"))
        run.take(2)
        self.assertEqual(run.deeds, (("take", 0), ("give", clause("p(b)")), ("take", 2)))
        self.assertEqual(run.takes, 2)

    def test_a_twin_that_goes_another_way(self):
        lines = ("f(f(X:s)) = a", "p(f(a)) | not r", "r", "f(b) = b", "not p(X:s) | q(X:s,X:s)")
        run = run_of(*lines, selection="first")
        run.take(0)
        run.take(3)
        twin = run.twin()
        self.assertIsInstance(twin, Run)
        self.assertEqual(state_of(twin), state_of(run))
        check_run(self, twin)
        before = state_of(run)
        drive_run(twin, 3)
        twin.give(clause("p(c)"))
        self.assertEqual(state_of(run), before)
        check_run(self, run)
        check_run(self, twin)
        after = state_of(twin)
        run.take(1)
        self.assertEqual(state_of(twin), after)
        check_run(self, run)
        check_run(self, twin)

    def test_a_twin_of_a_run_with_thrown_clauses(self):
        run = run_of("p(f(a))", "f(X:s) = X:s", "r | p(a)", "not r | p(b)")
        drive_run(run, 3)
        self.assertTrue(run.numbers("thrown"))
        twin = run.twin()
        check_run(self, twin)
        drive_run(twin, 9)
        check_run(self, twin)
        check_run(self, run)

    def test_the_same_deeds_in_both(self):
        run = run_of("f(f(X:s)) = f(X:s)", "p(f(X:s)) | r", "not p(f(f(a))) | q(a,a)", widest=1, largest=5)
        drive_run(run, 1)
        twin = run.twin()
        for one in (run, twin):
            drive_run(one, 5)
            one.give(clause("not p(f(b))"))
            drive_run(one, 5)
        self.assertEqual(state_of(twin), state_of(run))
        for number in range(len(run.known)):
            self.assertEqual(run.paper_for(number).steps, twin.paper_for(number).steps)
            self.assertEqual(run.cover_for(number).steps, twin.cover_for(number).steps)
        # The bounds are those of the run, too.
        self.assertEqual(run.numbers("aside"), twin.numbers("aside"))
        self.assertEqual(state_of(twin.twin()), state_of(run))

    def test_played(self):
        lines = ("f(f(X:s)) = f(X:s)", "p(f(X:s)) | r", "not p(f(f(a))) | q(a,a)")
        run = run_of(*lines, selection="heaviest", widest=1, largest=5)
        drive_run(run, 2)
        run.give(clause("not p(f(b))"))
        drive_run(run, 5)
        again = played_run(LAND, PLAIN, "heaviest", clauses(*lines), run.deeds, widest=1, largest=5)
        self.assertEqual(state_of(again), state_of(run))
        check_run(self, again)
        again = played_run(
            vocabulary=LAND, order=PLAIN, selection="heaviest", clauses=tuple(clauses(*lines)), deeds=list(run.deeds[:1]))
        self.assertEqual(again.takes, 1)
        self.assertEqual(played_run(LAND, PLAIN, "none", [], ()).word, "ended")

    def test_errors_of_played_runs(self):
        made = clauses("r", "not r", "p(a)")
        for error, selection, given, deeds in (
            (NoSelection, "last", [None], [("take", 9)]), (BadClause, "none", [None], [("take", 9)]),
            (NoClause, "none", made, [("take", 2), ("take", 9), ("take", 2)]), (NotWaiting, "none", made, [("take", 2), ("take", 2)]),
            (BadClause, "none", made, [("give", None), ("take", 9)]), (RunOver, "none", made, [("take", 0), ("take", 1), ("take", 2)]),
            (NoClause, "none", made, [("take", -1)]), (BadClause, "none", made, [("give", clause("r")), ("give", 3)]),
        ):
            self.assertRaises(error, played_run, LAND, PLAIN, selection, given, deeds)
        with self.assertRaises(BadClause) as caught:
            played_run(LAND, PLAIN, "none", made, [("give", clause("r")), ("give", 3)])
        self.assertEqual(caught.exception.index, 4)

    def test_the_lists_at_the_end(self):
        run = run_of("p(X:s) | r", "not p(f(a))")
        drive_run(run, 9)
        check_lists(self, run)


if __name__ == "__main__":
    unittest.main()
