import unittest

from heldalways import errors
from odd import ODD, STRANGE, told

ONE = {"InvalidWeb": "at", "InvalidValues": "at", "InvalidRun": "at", "InvalidPaper": "at",
       "InvalidNumber": "word", "Refused": "word", "Broken": "word"}


class Point5(unittest.TestCase):
    def test_bases(self):
        self.assertEqual(errors.PlantError.__bases__, (ValueError,))
        for name in [*ONE, "InvalidText"]:
            self.assertEqual(getattr(errors, name).__bases__, (errors.PlantError,), name)

    def test_attributes_by_place_and_by_name(self):
        for name, attribute in ONE.items():
            for value in ODD:
                with self.subTest(name=name, value=told(value)):
                    kind = getattr(errors, name)
                    self.assertIs(getattr(kind(value), attribute), value)
                    self.assertIs(getattr(kind(**{attribute: value}), attribute), value)

    def test_text(self):
        for value in STRANGE:
            found = errors.InvalidText(value, 3)
            self.assertIs(found.line, value)
            self.assertEqual(found.at, 3)
            found = errors.InvalidText(at=value, line=4)
            self.assertIs(found.at, value)
            self.assertEqual(found.line, 4)

    def test_raised_and_caught(self):
        for name in ONE:
            kind = getattr(errors, name)
            for base in (kind, errors.PlantError, ValueError):
                with self.assertRaises(base):
                    raise kind("word")


if __name__ == "__main__":
    unittest.main()
