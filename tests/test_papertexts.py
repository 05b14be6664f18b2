"""Point 52: texts of papers."""

import unittest

from chances import SMALL, Chances
from claimworlds.clauses import literal_of
from claimworlds.errors import BadLine
from claimworlds.papers import Paper
from claimworlds.papertexts import paper_text, read_paper
from claimworlds.vocabularies import Vocabulary
from land import A, B, C, LAND, TRUTH, X, Y, f, g, literal

TWO = Vocabulary(
    ("s", "t"), (("a", (), "s"), ("c", (), "t"), ("f", ("s",), "s"), ("zw0", ("t",), "s")), (("p", ("s",)), ("r", ())))

FORMS = (
    (("given", 3), "given 3"),
    (("given", 0), "given 0"),
    (("given", 123456), "given 123456"),
    (("fill", 0, ()), "fill 0"),
    (("fill", 12, ((X, A),)), "fill 12 X:s=a"),
    (("fill", 0, ((Y, g(A, X)), (X, f(A)))), "fill 0 Y:s=g(a,X:s) X:s=f(a)"),
    (("same", f(A)), "same f(a)"),
    (("same", X), "same X:s"),
    (("same", TRUTH), "same true"),
    (("either", f(A), C), "either f(a) = c"),
    (("either", C, f(A)), "either c = f(a)"),
    (("either", X, X), "either X:s = X:s"),
    (("either", ("p", A), TRUTH), "either p(a) = true"),
    (("either", ("r",), TRUTH), "either r = true"),
    (("more", 2, literal("not p(a)")), "more 2 not p(a)"),
    (("more", 2, literal("p(X:s)")), "more 2 p(X:s)"),
    (("more", 0, literal("r")), "more 0 r"),
    (("more", 2, literal("f(a) = b")), "more 2 f(a) = b"),
    (("more", 2, literal("a != b")), "more 2 b != a"),
    (("more", 2, (True, TRUTH, TRUTH)), "more 2 true = true"),
    (("more", 2, (False, TRUTH, TRUTH)), "more 2 true != true"),
    (("replace", 0, 1, False, 2, 0, (0, 1)), "replace 0 1 2 0 0.1"),
    (("replace", 0, 1, True, 2, 0, (0, 1)), "replace 0 1 turned 2 0 0.1"),
    (("replace", 10, 0, False, 11, 3, (1,)), "replace 10 0 11 3 1"),
    (("replace", 0, 0, True, 0, 0, (1, 0, 2, 10)), "replace 0 0 turned 0 0 1.0.2.10"),
    (("drop", 3, 0), "drop 3 0"),
)


class TestPaperTexts(unittest.TestCase):

    def test_each_form(self):
        for step, text in FORMS:
            self.assertEqual(paper_text(Paper([step])), text)
            made = read_paper(LAND, text)
            self.assertIsInstance(made, Paper)
            self.assertEqual(made.steps, (step,))
            if step[0] == "replace":
                self.assertIs(made.steps[0][3], step[3])

    def test_several_steps(self):
        text = "\n".join([text for _, text in FORMS])
        self.assertEqual(paper_text(Paper([step for step, _ in FORMS])), text)
        self.assertEqual(read_paper(LAND, text).steps, tuple(step for step, _ in FORMS))

    def test_no_steps(self):
        self.assertEqual(paper_text(Paper([])), "")
        self.assertEqual(read_paper(LAND, "").steps, ())
        self.assertEqual(read_paper(vocabulary=LAND, text="").steps, ())

    def refuses(self, line, vocabulary=LAND):
        for number, text in ((0, line), (2, "given 0\nsame a\n" + line), (0, line + "\ngiven 0"), (1, "drop 0 0\n" + line + "\nsnow")):
            with self.assertRaises(BadLine, msg=repr(text)) as caught:
                read_paper(vocabulary, text)
            self.assertEqual(caught.exception.number, number, repr(text))

    def test_spaces_and_empty_lines(self):
        for _, text in FORMS:
            for line in (text + " ", " " + text, text.replace(" ", "  ", 1), text + "\n", "\n" + text):
                self.assertRaises(BadLine, read_paper, LAND, line)
            if text.count(" ") > 1:
                at = text.rindex(" ")
                self.refuses(text[:at] + " " + text[at:])
                self.refuses(text[:at] + text[at + 1:])
        with self.assertRaises(BadLine) as caught:
            read_paper(LAND, "given 0\n")
        self.assertEqual(caught.exception.number, 1)
        with self.assertRaises(BadLine) as caught:
            read_paper(LAND, "\n")
        self.assertEqual(caught.exception.number, 0)
        with self.assertRaises(BadLine) as caught:
            read_paper(LAND, "given 0\n\ngiven 0")
        self.assertEqual(caught.exception.number, 1)

    def test_numbers(self):
        for number in ("00", "01", "007", "+1", "-1", "-0", "1.", ".1", "1.0", "x", "a", "1a", "0x1", "1_0", "", "true", "1e1"):
            self.refuses(f"given {number}")
            self.refuses(f"fill {number} X:s=a")
            self.refuses(f"more {number} p(a)")
            self.refuses(f"drop {number} 0")
            self.refuses(f"drop 0 {number}")
            for place in range(4):
                words = ["0", "0", "0", "0"]
                words[place] = number
                self.refuses(f"replace {' '.join(words)} 0.1")
                self.refuses(f"replace {' '.join(words[:2])} turned {' '.join(words[2:])} 0.1")
        for place in ("", ".", "0.", ".0", "0..1", "01", "0.01", "-1", "0.-1", "0,1", "x", "turned", "0.x"):
            self.refuses(f"replace 0 0 0 0 {place}")

    def test_words_too_many_and_too_few(self):
        for line in (
            "given", "given 0 0", "fill", "same", "same a b", "either", "either a", "either a =", "either a = b = c", "either a b",
            "more", "more 0", "more p(a)", "more 0 p(a) 0", "replace", "replace 0 0 0 0", "replace 0 0 0 0 0 0", "replace 0 0 turned 0 0",
            "replace 0 turned 0 0 0 0", "replace turned 0 0 0 0 0", "replace 0 0 turned turned 0 0 0", "replace 0 0 0 turned 0 0",
            "replace 0 0 Turned 0 0 0", "replace 0 0 true 0 0 0",
            "drop", "drop 0", "drop 0 0 0", "snow", "given0", "Given 0", "truth 0", "snow 0", "fill X:s=a", "0", "false", "0 given",
        ):
            self.refuses(line)

    def test_terms(self):
        for text in (
            "f( a)", "f (a)", "f(a )", "d", "f(a,b)", "f", "f()", "p(a)", "r", "X", "X:t", "X:a", "x:s", "f(X:t)", "true(a)", "false", "truth",
            "f(a", "f(a))", "(a)", "", "a,b", "a.", "a!", "predicate", "toolongname", "f(true)",
        ):
            self.refuses(f"same {text}")
            self.refuses(f"fill 0 X:s={text}")
            self.refuses(f"either {text} = a")
            self.refuses(f"either a = {text}")
        for text in ("a", "f(X:s)", "x:s", "X", "X:t", "p(a)", "true", "", "X:s=X:s"):
            self.refuses(f"fill 0 {text}=a")
        self.refuses("fill 0 X:s=true")
        self.refuses("fill 0 X:s=a,Y:s=b")
        self.refuses("fill 0 X:s")
        self.refuses("fill 0 X:s=a Y:s")

    def test_sorts_in_terms(self):
        for text in ("same f(c)", "same zw0(a)", "fill 0 X:s=f(c)", "either f(c) = a", "either p(c) = true", "more 0 p(c)", "more 0 a = c"):
            self.refuses(text, TWO)
        self.assertEqual(read_paper(TWO, "same zw0(c)").steps, (("same", ("zw0", ("c",))),))

    def test_either(self):
        for text in (
            "true = true", "a = true", "X:s = true", "true = a", "true = p(a)", "p(a) = p(a)", "p(a) = a", "a = p(a)", "not p(a) = true",
            "a != b", "a=b", "a= b", "a =b", "p(a) | r = true", "p(f) = true", "q(a) = true", "a = b = true", "f(a) = b = true", "false = true",
            "p( a) = true",
        ):
            self.refuses(f"either {text}")

    def test_more(self):
        for text in (
            "p(a) | r", "p(a) | p(a)", "false", "true", "not", "not not p(a)", "not a = b", "not true = true", "b = f(a)", "a = b", "a != b",
            "p(a) = true", "true = p(a)", "p( a)", "not  p(a)", "f(a)", "X:s", "a = true", "b=a", "not q(a)", "p(d)", "true=true",
        ):
            self.refuses(f"more 0 {text}")

    def test_steps_that_are_not_allowed_otherwise(self):
        for vocabulary, step, text in (
            (TWO, ("either", A, ("c",)), "either a = c"), (TWO, ("fill", 7, ((X, ("c",)), (X, A))), "fill 7 X:s=c X:s=a"),
            (LAND, ("replace", 99, 98, True, 97, 96, (5, 7)), "replace 99 98 turned 97 96 5.7"), (LAND, ("drop", 999999, 0), "drop 999999 0"),
        ):
            self.assertEqual(read_paper(vocabulary, text).steps, (step,))
            self.assertEqual(paper_text(Paper([step])), text)

    def test_the_first_bad_line(self):
        with self.assertRaises(BadLine) as caught:
            read_paper(LAND, "given 0\nsame d\ngiven\n")
        self.assertEqual(caught.exception.number, 1)

    def test_long_texts(self):
        steps = [("given", 0)] + [("fill", number, ((X, f(B)), (Y, X))) for number in range(5000)]
        text = paper_text(Paper(steps))
        self.assertEqual(read_paper(LAND, text).steps, tuple(steps))
        with self.assertRaises(BadLine) as caught:
            read_paper(LAND, text + "\nsnow")
        self.assertEqual(caught.exception.number, 5001)
        deep = A
        for _ in range(3000):
            deep = f(deep)
        text = paper_text(Paper([("same", deep)]))
        self.assertEqual(text, "same " + "f(" * 3000 + "a" + ")" * 3000)
        self.assertEqual(paper_text(read_paper(LAND, text)), text)

    def test_chances(self):
        chances = Chances(52)
        for _ in range(100):
            given = [chances.clause(2, 2) for _ in range(2)]
            paper = chances.paper(given, 12)
            steps = []
            for step in paper.steps:
                if step[0] == "more":
                    step = step[:2] + (literal_of(*step[2]),)
                steps.append(step)
            self.assertEqual(read_paper(SMALL, paper_text(Paper(steps))).steps, tuple(steps))


if __name__ == "__main__":
    unittest.main()
