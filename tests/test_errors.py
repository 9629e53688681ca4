import unittest

from gaithold import errors

UNDER_GAIT = {
    "InvalidTerm": "name",
    "InvalidName": "name",
    "InvalidCount": "quantity",
    "InvalidTimes": None,
    "InvalidRound": "number",
    "InvalidShape": "pos",
    "InvalidLimit": "number",
    "ParseError": "pos",
    "InvalidCommand": "first",
    "NameMismatch": None,
    "TermTooLarge": "name",
    "DuplicateName": "name",
    "CapacityExceeded": "capacity",
    "SystemInUse": "name",
}
UNDER_NOT_FOUND = {"UnknownEvent": "name", "UnknownSystem": "name", "UnknownRun": "name"}
APART = {"ZeroDenominator": ZeroDivisionError, "EmptyHistory": IndexError}


class ErrorsTest(unittest.TestCase):
    def check_family(self, base, fields):
        for name, field in fields.items():
            with self.subTest(name):
                self.assertEqual(getattr(errors, name).__bases__, (base,))
                self.check_fields(name, field)

    def check_fields(self, name, field):
        for value in ("abc", 7, None):
            error = getattr(errors, name)(*([] if field is None else [value]))
            self.assertEqual(error.tag, name)
            if field is not None:
                self.assertEqual(getattr(error, field), value)
            self.assertIsInstance(str(error), str)

    def test_base_classes(self):
        self.assertEqual(errors.GaitError.__bases__, (ValueError,))
        self.assertEqual(errors.NotFound.__bases__, (LookupError,))
        self.assertEqual(errors.GaitError().tag, "GaitError")
        self.assertEqual(errors.NotFound().tag, "NotFound")

    def test_under_gait_error(self):
        self.check_family(errors.GaitError, UNDER_GAIT)

    def test_under_not_found(self):
        self.check_family(errors.NotFound, UNDER_NOT_FOUND)

    def test_apart(self):
        for name, base in APART.items():
            self.assertEqual(getattr(errors, name).__bases__, (base,))
            self.check_fields(name, None)

    def test_nothing_else(self):
        known = {"GaitError", "NotFound", *UNDER_GAIT, *UNDER_NOT_FOUND, *APART}
        self.assertEqual({name for name in vars(errors) if not name.startswith("__")}, known)

    def test_numbers_of_any_length(self):
        # Python refuses to write so many digits, also in a message.
        number = 10 ** 5000
        self.assertEqual(errors.InvalidRound(number).number, number)
        self.assertEqual(errors.InvalidLimit(number).number, number)


if __name__ == "__main__":
    unittest.main()
