import unittest

from firstanswers import errors
from support import any_values

FIELDS = {
    ValueError: {
        "InvalidPrime": ["value"], "InvalidNumber": ["value"], "InvalidLetters": ["value"],
        "InvalidCost": ["letter"], "InvalidWord": ["value"], "InvalidCount": ["value"],
        "InvalidMachine": ["part"], "InvalidAnswer": ["number"], "InvalidCoordinates": [],
        "InvalidText": ["line"], "InvalidRow": ["row"], "OtherField": [], "OtherLetters": [],
        "TooSmall": ["least_size"], "Contradiction": ["word"],
    },
    LookupError: {"OutOfRange": ["value"], "NotKnown": ["value"], "NotNow": ["word"], "Nothing": [], "Done": []},
    ArithmeticError: {"NoQuotient": [], "NotFinite": []},
    OverflowError: {"TooMany": ["limit"], "TooLong": []},
    RuntimeError: {"LimitReached": ["limit"]},
}


class ErrorTests(unittest.TestCase):
    def each(self):
        for base, table in FIELDS.items():
            for name, fields in table.items():
                yield base, getattr(errors, name), fields

    def test_there_are_twenty_five(self):
        self.assertEqual(25, sum(len(table) for table in FIELDS.values()))
        classes = [value for value in vars(errors).values() if isinstance(value, type)]
        self.assertEqual(25, len(classes))

    def test_directly_below(self):
        for base, error, _ in self.each():
            self.assertEqual((base,), error.__bases__)
            self.assertEqual("firstanswers.errors", error.__module__)

    def test_fields_by_position_and_by_name(self):
        for _, error, fields in self.each():
            for value in any_values() + [10 ** 5000]:
                by_position = error(*[value for _ in fields])
                by_name = error(**{name: value for name in fields})
                for name in fields:
                    self.assertIs(getattr(by_position, name), value)
                    self.assertIs(getattr(by_name, name), value)

    def test_other_fields(self):
        for _, error, fields in self.each():
            with self.assertRaises(TypeError):
                error(*range(len(fields) + 1))
            if fields:
                with self.assertRaises(TypeError):
                    error()

    def test_raised_and_caught(self):
        for base, error, fields in self.each():
            with self.assertRaises(base):
                raise error(*fields)


if __name__ == "__main__":
    unittest.main()
