"""Points 3, 7 and 8: vocabularies."""

import unittest

from claimworlds.errors import BadName, NameTaken, NoSort
from claimworlds.vocabularies import Vocabulary


class TestVocabularies(unittest.TestCase):

    def refuses(self, error, name, *given):
        with self.assertRaises(error) as caught:
            Vocabulary(*given)
        self.assertEqual(caught.exception.name, name)

    def test_fields_are_tuples_in_the_order_passed(self):
        made = Vocabulary(
            sorts=["b", "a"],
            functions=[("g", ("a", "b"), "b"), ("c", (), "a")],
            predicates=[("q", ()), ("p", ("b",))],
        )
        self.assertEqual(made.sorts, ("b", "a"))
        self.assertEqual(made.functions, (("g", ("a", "b"), "b"), ("c", (), "a")))
        self.assertEqual(made.predicates, (("q", ()), ("p", ("b",))))

    def test_the_empty_vocabulary(self):
        made = Vocabulary((), (), ())
        self.assertEqual((made.sorts, made.functions, made.predicates), ((), (), ()))
        self.assertIs("a" in made, False)

    def test_later_changes_of_what_was_passed(self):
        sorts = ["s"]
        functions = [("f", ["s"], "s")]
        predicates = [("p", ["s"])]
        made = Vocabulary(sorts, functions, predicates)
        functions[0][1].append("s")
        predicates[0][1].append("s")
        for passed in (sorts, functions, predicates):
            passed.append("junk")
        self.assertEqual(made.sorts, ("s",))
        self.assertEqual(made.functions, (("f", ("s",), "s"),))
        self.assertEqual(made.predicates, (("p", ("s",)),))
        self.assertEqual(made.arguments("f"), ("s",))
        self.assertIs("junk" in made, False)

    def test_bad_names(self):
        for name in ("", "A", "1a", "ab_c", "abcdefghi", "all", "truth", "a\n"):
            self.refuses(BadName, name, (name,), (), ())
            self.refuses(BadName, name, ("s",), ((name, (), "s"),), ())
            self.refuses(BadName, name, ("s",), (), ((name, ()),))

    def test_taken_names(self):
        self.refuses(NameTaken, "s", ("s", "t", "s"), (), ())
        self.refuses(NameTaken, "s", ("s",), (("s", (), "s"),), ())
        self.refuses(NameTaken, "f", ("s",), (("f", (), "s"), ("f", ("s",), "s")), ())
        self.refuses(NameTaken, "s", ("s",), (), (("s", ()),))
        self.refuses(NameTaken, "f", ("s",), (("f", (), "s"),), (("f", ()),))
        self.refuses(NameTaken, "p", ("s",), (), (("p", ()), ("p", ("s",))))

    def test_missing_sorts(self):
        self.refuses(NoSort, "t", ("s",), (("f", (), "t"),), ())
        self.refuses(NoSort, "t", ("s",), (("f", ("s", "t", "u"), "v"),), ())
        self.refuses(NoSort, "v", ("s",), (("f", ("s", "s"), "v"),), ())
        self.refuses(NoSort, "f", ("s",), (("f", (), "s"), ("g", ("f",), "s")), ())
        self.refuses(NoSort, "u", ("s",), (), (("p", ("s", "u", "t")),))
        self.refuses(NoSort, "truth", ("s",), (("f", (), "truth"),), ())

    def test_order_of_the_errors(self):
        self.refuses(BadName, "A", ("A", "s", "s"), (("B", (), "t"),), ())
        self.refuses(NameTaken, "s", ("s", "s", "A"), (("B", (), "t"),), (("C", ()),))
        self.refuses(NoSort, "t", ("s",), (("f", ("t",), "s"), ("B", (), "s")), (("C", ()),))
        self.refuses(BadName, "B", ("s",), (("B", ("t",), "u"), ("f", (), "t")), ())
        self.refuses(NameTaken, "s", ("s",), (("s", ("t",), "s"),), ())
        self.refuses(NoSort, "t", ("s",), (("f", (), "t"),), (("C", ()),))
        self.refuses(BadName, "C", ("s",), (("f", (), "s"),), (("C", ("t",)), ("f", ())))
        self.refuses(NameTaken, "f", ("s",), (("f", (), "s"),), (("f", ("t",)), ("C", ())))

    def test_contains(self):
        made = Vocabulary(("s",), (("f", ("s",), "s"),), (("p", ("s",)),))
        for name in ("s", "f", "p"):
            self.assertIs(name in made, True)
        for name in ("", "x", "S", "truth", "true", "fp", "s "):
            self.assertIs(name in made, False)

    def test_arguments_and_value_sort(self):
        made = Vocabulary(("s", "t"), (("c", (), "t"), ("f", ("s", "t"), "s")), (("p", ("t",)), ("q", ())))
        rows = {"c": ((), "t"), "f": (("s", "t"), "s"), "p": (("t",), "truth"), "q": ((), "truth")}
        for name, (arguments, sort) in rows.items():
            self.assertEqual(made.arguments(name), arguments)
            self.assertEqual(made.value_sort(name=name), sort)
        for name in ("s", "t", "true", "truth", "X", "", "r"):
            self.assertIsNone(made.arguments(name=name))
            self.assertIsNone(made.value_sort(name))

    def test_reserved_names_and_many_arguments_are_no_error(self):
        made = Vocabulary(("zs",), (("zw0", ("zs",) * 6, "zs"),), (("zp", ()),))
        self.assertEqual(made.arguments("zw0"), ("zs",) * 6)

    def test_extended_once_and_twice(self):
        made = Vocabulary(("s",), (("c", (), "s"),), (("p", ("s",)),))
        more = made.extended([("zw0", ("s",), "s")])
        most = more.extended(functions=(("zw1", (), "s"), ("zd0", (), "s")))
        self.assertEqual(more.functions, (("c", (), "s"), ("zw0", ("s",), "s")))
        self.assertEqual(most.functions, more.functions + (("zw1", (), "s"), ("zd0", (), "s")))
        self.assertEqual((most.sorts, most.predicates), (("s",), (("p", ("s",)),)))
        self.assertIs("zd0" in most, True)
        self.assertEqual(more.arguments("zw0"), ("s",))
        self.assertEqual(made.functions, (("c", (), "s"),))
        self.assertIs("zw0" in made, False)
        self.assertEqual(made.extended(()).functions, made.functions)

    def test_errors_of_extended(self):
        made = Vocabulary(("s",), (("c", (), "s"),), (("p", ("s",)),))
        for error, name, functions in (
            (BadName, "A", [("A", (), "t")]),
            (NameTaken, "c", [("c", (), "t")]),
            (NameTaken, "d", [("d", (), "s"), ("d", (), "s")]),
            (NameTaken, "s", [("s", (), "s")]),
            (NoSort, "t", [("d", ("t",), "u")]),
        ):
            with self.assertRaises(error) as caught:
                made.extended(functions)
            self.assertEqual(caught.exception.name, name)
        with self.assertRaises(NameTaken) as caught:
            made.extended([("p", (), "s")])
        self.assertEqual(caught.exception.name, "p")
        self.assertEqual(made.functions, (("c", (), "s"),))


if __name__ == "__main__":
    unittest.main()
