"""The errors of asking."""

import unittest

from playhall import askerrors
from playhall.errors import HallError

FIELDS = {
    "BadRule": ["part"],
    "BadBox": [],
    "BadTurn": ["index"],
    "BadTreeLine": ["line"],
    "BadTree": ["path"],
    "BadAnswer": ["path"],
}


class AskErrorsTest(unittest.TestCase):
    def test_each_error_has_its_attributes(self):
        for name, fields in FIELDS.items():
            values = [f"value of {field}" for field in fields]
            for error in (getattr(askerrors, name)(*values), getattr(askerrors, name)(**dict(zip(fields, values)))):
                self.assertEqual(vars(error), dict(zip(fields, values)), name)
                self.assertIsInstance(str(error), str)

    def test_base_classes(self):
        self.assertEqual(askerrors.AskError.__bases__, (HallError,))
        for name in FIELDS:
            self.assertEqual(getattr(askerrors, name).__bases__, (askerrors.AskError,), name)


if __name__ == "__main__":
    unittest.main()
