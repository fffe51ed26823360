"""[5]: each class, its base, its field."""

import unittest

from termsonwires import errors

PLAIN = """InvalidSheet InvalidTerm InvalidName InvalidPlace InvalidNames InvalidThing InvalidBits InvalidIndex
    InvalidCount InvalidPrice InvalidAcceptor InvalidTeller InvalidState InvalidDamage InvalidHoled InvalidTable
    InvalidMap InvalidChart InvalidStep InvalidSteps InvalidCode UnsoundCode InvalidHeld InvalidStream InvalidWire
    InvalidLink InvalidSpot NoRef Unfit NoSpot NotFixed Refused NothingToUndo NoBlock InvalidCommand NotReady""".split()
FIELDS = {
    "InvalidText": "index", "Faulty": "faults", "Endless": "name", "TooMany": "count", "NotCarried": "number",
    "InvalidPieces": "index", "UnknownLine": "name", "InvalidDeeds": "index",
}


class ErrorsTest(unittest.TestCase):
    def test_base(self):
        self.assertEqual(errors.WireError.__bases__, (ValueError,))

    def test_all_stand_directly_under_the_base(self):
        for name in PLAIN + list(FIELDS):
            self.assertEqual(getattr(errors, name).__bases__, (errors.WireError,), name)
            self.assertEqual(getattr(errors, name).__module__, "termsonwires.errors")

    def test_no_other_classes(self):
        classes = {name for name, value in vars(errors).items() if isinstance(value, type)}
        self.assertEqual(classes, {"WireError", *PLAIN, *FIELDS})

    def test_plain_ones_take_a_string(self):
        for name in PLAIN:
            error = getattr(errors, name)("why")
            self.assertEqual(str(error), "why")

    def test_fields(self):
        for name, field in FIELDS.items():
            for worth in (7, [("a", (), "tags")], "word", None):
                error = getattr(errors, name)(worth)
                self.assertIs(getattr(error, field), worth)
                self.assertIsInstance(str(error), str)
            self.assertEqual(getattr(getattr(errors, name)(**{field: 3}), field), 3)


if __name__ == "__main__":
    unittest.main()
