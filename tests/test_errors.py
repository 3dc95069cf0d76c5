"""The errors of the interface."""

import unittest

from playhall import errors

FIELDS = {
    "BadMove": ["part"],
    "BadGame": ["part", "index"],
    "BadHall": ["part", "index"],
    "BadScoring": ["part", "index"],
    "BadSeason": ["part", "index"],
    "BadWorths": ["index"],
    "BadLine": ["line", "word"],
    "NoMove": ["name"],
    "NoGoal": ["name"],
    "NoPlayer": ["name"],
    "NoCounter": ["name"],
    "NoTable": ["name"],
    "Blocked": ["counter"],
    "BadPlay": ["index"],
    "BadEntry": ["index"],
    "TooLarge": ["limit"],
    "NotReached": ["missing"],
    "Clash": ["first", "second"],
    "NotForced": [],
    "Impossible": ["sign"],
    "Endless": ["ray"],
    "NothingBack": ["most"],
    "NothingForth": ["most"],
    "NoMeeting": ["meeting"],
    "Entered": ["meeting"],
    "BadPoints": ["offered"],
    "NothingEntered": [],
}


class ErrorsTest(unittest.TestCase):
    def test_each_error_has_its_attributes(self):
        for name, fields in FIELDS.items():
            values = [f"value of {field}" for field in fields]
            by_position = getattr(errors, name)(*values)
            by_name = getattr(errors, name)(**dict(zip(fields, values)))
            for error in (by_position, by_name):
                self.assertEqual(vars(error), dict(zip(fields, values)), name)
                self.assertIsInstance(str(error), str)

    def test_each_error_is_a_direct_subclass_of_hall_error_alone(self):
        self.assertEqual(errors.HallError.__bases__, (ValueError,))
        for name in FIELDS:
            self.assertEqual(getattr(errors, name).__bases__, (errors.HallError,), name)


if __name__ == "__main__":
    unittest.main()
