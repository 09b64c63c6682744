import unittest

from fullestrows import errors
from fullestrows.errors import RowsError
from values import ANY_VALUES

ATTRIBUTES = {
    "BadFact": ["value"], "BadPattern": ["value"], "BadLine": ["line"], "BadText": [], "BadKey": [], "BadRule": [],
    "Clash": [], "Broken": ["index", "shown"], "BadNodes": [], "Loose": ["variable"], "NothingNew": ["index"],
    "BadNode": ["index"], "BadPart": ["part"], "NoPart": ["known"], "BadNames": [], "OrBelow": [],
    "BadStrike": ["value"], "NotAnAnswer": ["known"], "BadQuestion": ["value"], "NoName": ["value"],
    "NotThere": ["fact"], "ThereAlready": ["fact"], "NothingToUndo": [], "NothingToRedo": [],
}


class Errors(unittest.TestCase):
    """Point 10 and the interface of errors.py."""

    def test_base(self):
        self.assertEqual(RowsError.__bases__, (ValueError,))

    def test_each_is_directly_below_rows_error(self):
        for name in ATTRIBUTES:
            with self.subTest(name):
                self.assertEqual(getattr(errors, name).__bases__, (RowsError,))

    def test_no_other_errors(self):
        held = {name for name in vars(errors) if not name.startswith("_")}
        self.assertEqual(held, {"RowsError", *ATTRIBUTES})

    def test_attributes_by_position(self):
        for name, listed in ATTRIBUTES.items():
            with self.subTest(name):
                given = [[at] for at in range(len(listed))]
                error = getattr(errors, name)(*given)
                for attribute, value in zip(listed, given):
                    self.assertIs(getattr(error, attribute), value)

    def test_attributes_by_name(self):
        for name, listed in ATTRIBUTES.items():
            with self.subTest(name):
                given = {attribute: {"at": attribute} for attribute in listed}
                error = getattr(errors, name)(**given)
                self.assertEqual(sorted(vars(error)), sorted(listed))
                for attribute in listed:
                    self.assertIs(getattr(error, attribute), given[attribute])

    def test_attributes_are_wanted(self):
        for name, listed in ATTRIBUTES.items():
            if listed:
                with self.subTest(name), self.assertRaises(TypeError):
                    getattr(errors, name)()

    def test_any_value_is_kept(self):
        for value in ANY_VALUES:
            self.assertIs(errors.BadFact(value).value, value)
            self.assertIs(errors.Broken(index=1, shown=value).shown, value)

    def test_can_be_caught_as_rows_error(self):
        with self.assertRaises(RowsError):
            raise errors.Clash()


if __name__ == "__main__":
    unittest.main()
