"""The interface of the document, so far as it is built: where each name is defined, and its parameters."""

import importlib
import inspect
import unittest

FUNCTIONS = {
    "names": ("is_name(value)", "is_variable_name(value)"),
    "terms": (
        "is_variable(term)", "is_term(vocabulary, value)", "is_atom(vocabulary, value)", "sort_of(vocabulary, term)",
        "variables_of(term)", "part_at(term, place)", "put_at(term, place, new)", "inner_places(term)", "size_of(term)",
    ),
    "formulas": (
        "is_formula(vocabulary, value)", "is_sentence(vocabulary, value)", "free_variables(formula)",
        "denied_formula(formula)",
    ),
    "termtexts": ("term_text(term)", "read_term(vocabulary, text)"),
    "formulatexts": ("formula_text(formula)", "read_sentence(vocabulary, text)"),
    "booktexts": ("book_text(book)", "read_book(text)"),
    "fillings": ("fresh_filling(variables, start)",),
    "matching": ("match_terms(pattern, term)",),
    "unifying": ("unify_terms(one, two)",),
    "clauses": (
        "literal_of(positive, one, two)", "opposite_literal(literal)", "clause_of(literals)", "is_clause(vocabulary, value)",
        "clause_variables(clause)", "filled_literals(literals, filling)", "filled_clause(clause, filling)",
        "is_tautology(clause)",
    ),
    "insides": ("inside(vocabulary, one, two)", "are_variants(one, two)"),
    "clausetexts": ("clause_text(clause)", "read_clause(vocabulary, text)"),
    "inwards": ("inward_formula(formula)",),
    "narrowing": ("wide_rows(formula)", "deep_rows(formula)", "narrowed_formula(formula)"),
    "witnesses": ("witness_form(formula, variables, witnesses)",),
    "clauseforms": ("clause_form(vocabulary, sentences)",),
    "expanding": ("expanded_world(form, world)",),
    "groundterms": ("ground_terms(vocabulary, order, most, *, atoms=False)",),
    "selecting": ("selected_index(order, selection, clause)",),
    "checking": (
        "all_lines(vocabulary, given, paper)", "last_line(vocabulary, given, paper)", "is_refutation(vocabulary, given, paper)",
    ),
    "walking": ("walk(vocabulary, given, paper, world)",),
    "covering": ("all_leaves(vocabulary, given, paper)", "is_cover(vocabulary, order, given, paper, goal)"),
    "joining": ("joined_paper(vocabulary, given, papers, paper)", "trimmed_paper(paper)"),
    "turning": ("turned_paper(vocabulary, given, paper, first)",),
    "papertexts": ("paper_text(paper)", "read_paper(vocabulary, text)"),
    "stepping": (
        "step_at(vocabulary, order, selection, clauses, address)", "all_steps(vocabulary, order, selection, clauses)",
        "steps_with(vocabulary, order, selection, clauses, index)",
    ),
    "steppapers": ("step_paper(vocabulary, clauses, step)",),
    "simplifying": ("simplify(vocabulary, order, helpers, clause)",),
    "runs": ("played_run(vocabulary, order, selection, clauses, deeds, *, widest=8, largest=40)",),
    "bridging": ("bridge_runs(one, two)",),
    "choosing": (
        "clause_weight(order, clause)", "choose_next(run, *, beat=3)", "drive_run(run, rounds, *, beat=3)",
    ),
    "judging": ("is_ending(vocabulary, given, ending)",),
    "finite": ("finite_world(own)",),
    "equations": ("equation_paper(own, one, two)",),
    "asking": ("ask(book, claim, *, rounds=30, selection='none', beat=3)", "direct_paper(answer)"),
}
CLASSES = {
    "vocabularies.Vocabulary": (
        "__init__(self, sorts, functions, predicates)", "arguments(self, name)", "value_sort(self, name)",
        "extended(self, functions)", "__contains__(self, name)",
    ),
    "books.Book": (
        "__init__(self, vocabulary, axioms)", "sentence(self, name)", "with_axiom(self, name, sentence)",
        "without(self, name)", "__iter__(self)",
    ),
    "fillings.Filling": ("__init__(self, pairs)", "__call__(self, term)", "__rshift__(self, other)"),
    "worlds.World": (
        "__init__(self, vocabulary, sizes, tables)", "size(self, sort)", "value(self, term, things)", "holds(self, formula, things)",
        "literal_holds(self, literal, things)", "clause_holds(self, clause, things)", "break_of(self, clause)",
    ),
    "clauseforms.ClauseForm": (),
    "orders.Order": (
        "__init__(self, names, weights)", "weight(self, term)", "compare(self, one, two)", "compare_literals(self, one, two)",
        "compare_clauses(self, ones, twos)",
    ),
    "papers.Paper": ("__init__(self, steps)",),
    "stepping.Step": (),
    "simplifying.Simplified": (),
    "endings.Ending": ("__init__(self, order, selection, clauses, reasons, covers)",),
    "runs.Run": (
        "__init__(self, vocabulary, order, selection, clauses, *, widest=8, largest=40)", "status(self, number)",
        "numbers(self, status)", "kept_clauses(self)", "taken_clauses(self)", "take(self, number)", "give(self, clause)",
        "twin(self)", "paper_for(self, number)", "cover_for(self, number)", "all_reasons(self)", "carried(self, paper)",
        "make_ending(self)",
    ),
    "ownworlds.OwnWorld": (
        "__init__(self, vocabulary, ending, most)", "value(self, term)", "holds(self, clause)", "values_of(self, sort)",
    ),
    "asking.Answer": (),
}


class TestInterface(unittest.TestCase):

    def check(self, made, form):
        name, rest = form.split("(")
        self.assertEqual(f"({rest}", str(inspect.signature(made)), form)
        self.assertEqual(made.__name__, name)

    def test_functions(self):
        for module, forms in FUNCTIONS.items():
            found = importlib.import_module(f"claimworlds.{module}")
            for form in forms:
                made = getattr(found, form.split("(")[0])
                self.check(made, form)
                self.assertEqual(made.__module__, found.__name__)

    def test_classes(self):
        for place, forms in CLASSES.items():
            module, name = place.split(".")
            found = importlib.import_module(f"claimworlds.{module}")
            made = getattr(found, name)
            self.assertEqual(made.__module__, found.__name__)
            for form in forms:
                self.check(vars(made)[form.split("(")[0]], form)

    def test_properties(self):
        for place, names in (
            ("runs.Run", ("given", "known", "kept", "taken", "takes", "word", "deeds")), ("asking.Answer", ("follows", "used")),
        ):
            module, name = place.split(".")
            made = getattr(importlib.import_module(f"claimworlds.{module}"), name)
            for found in names:
                self.assertIsInstance(vars(made)[found], property)

    def test_class_methods(self):
        order = importlib.import_module("claimworlds.orders").Order
        self.assertIsInstance(vars(order)["plain"], classmethod)
        self.assertEqual(str(inspect.signature(order.plain)), "(vocabulary)")


if __name__ == "__main__":
    unittest.main()
