"""The errors of the calendar."""

import unittest

from playhall import houseerrors
from playhall.errors import HallError

FIELDS = {
    "InvalidLine": ["word"],
    "InvalidSession": [],
    "InvalidHouse": [],
    "EmptyRegion": [],
    "UnknownTool": ["tool"],
    "NoSession": ["index"],
    "NotEnough": ["beat", "tool"],
    "InvalidSchedule": ["beat"],
    "InvalidMix": ["mix"],
    "Barred": ["edge"],
    "Beaten": ["ring"],
}


class HouseErrorsTest(unittest.TestCase):
    def test_each_error_has_its_attributes(self):
        for name, fields in FIELDS.items():
            values = [f"value of {field}" for field in fields]
            for error in (getattr(houseerrors, name)(*values), getattr(houseerrors, name)(**dict(zip(fields, values)))):
                self.assertEqual(vars(error), dict(zip(fields, values)), name)
                self.assertIsInstance(str(error), str)

    def test_tuples_and_lists_as_values(self):
        self.assertEqual(houseerrors.InvalidMix((1, 2, 0)).mix, (1, 2, 0))
        self.assertEqual(houseerrors.Barred((1, 2, 0)).edge, (1, 2, 0))
        self.assertEqual(houseerrors.Beaten([(1, 2), (0, 0)]).ring, [(1, 2), (0, 0)])

    def test_base_classes(self):
        self.assertEqual(houseerrors.HouseError.__bases__, (HallError,))
        for name in FIELDS:
            self.assertEqual(getattr(houseerrors, name).__bases__, (houseerrors.HouseError,), name)


if __name__ == "__main__":
    unittest.main()
