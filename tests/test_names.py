"""Point 6: names, variable names and words."""

import unittest

from claimworlds.names import is_name, is_variable_name

WORDS = ("all", "some", "not", "and", "or", "implies", "iff", "true", "false", "truth", "sort", "function", "axiom")


class TestNames(unittest.TestCase):

    def test_lengths(self):
        for size in range(12):
            self.assertIs(is_name("a" * size), 1 <= size <= 8, size)
            self.assertIs(is_variable_name(("X" + "a" * size)[:size]), 1 <= size <= 8, size)

    def test_each_sign_at_each_place(self):
        for code in [9, 10, 13] + list(range(32, 127)) + [0xB2, 0xE9, 0x661]:
            sign = chr(code)
            small = "a" <= sign <= "z"
            capital = "A" <= sign <= "Z"
            digit = "0" <= sign <= "9"
            self.assertIs(is_name(sign), small, repr(sign))
            self.assertIs(is_variable_name(sign), capital, repr(sign))
            for place in range(1, 5):
                behind = ("bcde"[:place - 1] + sign + "f")[:place + 1]
                self.assertIs(is_name("a" + behind), small or digit, repr("a" + behind))
                self.assertIs(is_variable_name("X" + behind), small or digit, repr("X" + behind))

    def test_words(self):
        for word in WORDS:
            self.assertIs(is_name(word), False, word)
            self.assertIs(is_variable_name(word), False, word)
            self.assertIs(is_name(word[:-1] + "9"), True, word)
        self.assertIs(is_variable_name("All"), True)
        self.assertIs(is_variable_name("True"), True)

    def test_predicate_is_too_long(self):
        self.assertIs(is_name("predicate"), False)
        self.assertIs(is_name("predicat"), True)

    def test_newline_behind(self):
        self.assertIs(is_name("node\n"), False)
        self.assertIs(is_variable_name("X\n"), False)

    def test_reserved_names_are_names(self):
        for name in ("z", "zw0", "zd12"):
            self.assertIs(is_name(name), True)
        self.assertIs(is_variable_name("Z"), True)
        self.assertIs(is_variable_name("Z9000"), True)

    def test_by_keyword(self):
        self.assertIs(is_name(value="a"), True)
        self.assertIs(is_variable_name(value="a"), False)


if __name__ == "__main__":
    unittest.main()
