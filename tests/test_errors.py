"""Points 4 and the interface: the error classes, their bases and their fields."""

import unittest

from claimworlds import errors

FIELDS = {
    "BadName": "name", "NameTaken": "name", "NoSort": "name", "ReservedName": "name", "NotSentence": "name",
    "NoAxiom": "name", "BadTable": "name", "BadWeight": "name", "BadSize": "name", "BadPlace": "place",
    "FilledTwice": "variable", "NoSelection": "selection", "BadText": "column", "UnknownName": "column",
    "WrongCount": "column", "WrongSort": "column", "NameBound": "column", "BadLine": "number",
    "NoClause": "number", "NotWaiting": "number", "BadStep": "index", "NotUnit": "index", "NotUnits": "index",
    "BadClause": "index", "TooHeavy": "load", "TooLong": None, "TooMany": None, "NoSteps": None,
    "NotRefutation": None, "RunOver": None, "GivenDiffer": None, "NotEnded": None,
}
OF_TEXTS = ("BadText", "UnknownName", "WrongCount", "WrongSort", "NameBound")
VALUES = {"name": "node", "place": (0, 2), "variable": ("X", "node"), "selection": "last"}


class TestErrors(unittest.TestCase):

    def test_bases(self):
        self.assertEqual(errors.ClaimError.__bases__, (ValueError,))
        self.assertEqual(errors.TextError.__bases__, (errors.ClaimError,))
        for name in FIELDS:
            wanted = errors.TextError if name in OF_TEXTS else errors.ClaimError
            self.assertEqual(getattr(errors, name).__bases__, (wanted,), name)

    def test_fields(self):
        for name, field in FIELDS.items():
            made = getattr(errors, name)
            if field is None:
                self.assertEqual(vars(made()), {}, name)
                continue
            value = VALUES.get(field, 7)
            self.assertEqual(vars(made(value)), {field: value}, name)
            self.assertEqual(vars(made(**{field: value})), {field: value}, name)

    def test_each_is_defined_in_the_file(self):
        found = [name for name, value in vars(errors).items() if isinstance(value, type)]
        self.assertEqual(sorted(found), sorted(["ClaimError", "TextError", *FIELDS]))

    def test_raised_and_caught_by_the_bases(self):
        with self.assertRaises(ValueError):
            raise errors.NoSteps()
        with self.assertRaises(errors.TextError) as caught:
            raise errors.NameBound(3)
        self.assertEqual(caught.exception.column, 3)


if __name__ == "__main__":
    unittest.main()
