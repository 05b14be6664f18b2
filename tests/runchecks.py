"""Checks of everything that a run promises at each moment."""

from claimworlds.checking import last_line
from claimworlds.clausetexts import clause_text
from claimworlds.covering import is_cover
from claimworlds.papers import Paper
from claimworlds.stepping import all_steps


def check_run(case, run):
    """The papers and covers of all known clauses, and the reasons of all steps between taken clauses."""
    vocabulary, order = run.vocabulary, run.order
    kept = run.kept_clauses()
    for number, clause in enumerate(run.known):
        paper = run.paper_for(number)
        case.assertIsInstance(paper, Paper)
        case.assertEqual(last_line(vocabulary, run.given, paper), clause)
        case.assertIs(is_cover(vocabulary, order, kept, run.cover_for(number), clause), True)
    steps = all_steps(vocabulary, order, run.selection, run.taken_clauses())
    reasons = run.all_reasons()
    case.assertIsInstance(reasons, tuple)
    case.assertEqual([address for address, _ in reasons], [step.address for step in steps])
    for (_, paper), step in zip(reasons, steps):
        case.assertIs(is_cover(vocabulary, order, kept, paper, step.conclusion), True)
    check_lists(case, run)


def check_lists(case, run):
    """The properties and methods that list numbers and clauses agree with one another."""
    numbers = range(len(run.known))
    for status in ("waiting", "taken", "aside", "thrown"):
        case.assertEqual(run.numbers(status), tuple(number for number in numbers if run.status(number) == status))
    case.assertEqual(run.kept, tuple(number for number in numbers if run.status(number) != "thrown"))
    case.assertEqual(run.taken, run.numbers("taken"))
    case.assertEqual(run.kept_clauses(), tuple(run.known[number] for number in run.kept))
    case.assertEqual(run.taken_clauses(), tuple(run.known[number] for number in run.taken))
    case.assertEqual(run.takes, len([deed for deed in run.deeds if deed[0] == "take"]))
    if () in run.known:
        word = "refuted"
    elif run.numbers("waiting"):
        word = "going"
    else:
        word = "stuck" if run.numbers("aside") else "ended"
    case.assertEqual(run.word, word)


def state_of(run):
    """All that can be seen of a run, but its papers."""
    return (
        run.given, run.known, run.kept, run.taken, run.takes, run.word, run.deeds,
        tuple(run.status(number) for number in range(len(run.known))), run.vocabulary, run.order, run.selection,
    )


def texts(clauses):
    return [clause_text(clause) for clause in clauses]
