"""Point 40: linear tasks."""

import random
import unittest
from math import gcd

from playhall.errors import Endless
from playhall.tasks import solve

BIG = 10 ** 40 - 1


def product_of(row, numbers):
    return sum(one * other for one, other in zip(row, numbers, strict=True))


class TasksTest(unittest.TestCase):
    def judge(self, rows, limits, aims):
        """Judges a solution or a ray by the words of point 40; returns the solution, or None."""
        copies = ([list(row) for row in rows], list(limits), list(aims))
        try:
            numbers, tolls, whole = solve(rows, limits, aims)
        except Endless as endless:
            ray = endless.ray
            self.assertIs(endless.__class__, Endless)
            self.assertIsInstance(ray, tuple)
            self.assertEqual(len(ray), len(aims))
            self.assertTrue(all(number >= 0 for number in ray))
            self.assertTrue(all(product_of(row, ray) <= 0 for row in rows))
            self.assertGreater(product_of(aims, ray), 0)
            return None
        self.assertEqual(([list(row) for row in rows], list(limits), list(aims)), copies)
        self.assertIsInstance(numbers, list)
        self.assertIsInstance(tolls, list)
        self.assertEqual((len(numbers), len(tolls)), (len(aims), len(rows)))
        self.assertGreaterEqual(whole, 1)
        self.assertEqual(gcd(whole, *numbers, *tolls), 1)
        self.assertTrue(all(number >= 0 for number in [*numbers, *tolls]))
        for row, limit in zip(rows, limits, strict=True):
            self.assertLessEqual(product_of(row, numbers), limit * whole)
        for place, aim in enumerate(aims):
            self.assertGreaterEqual(sum(toll * row[place] for toll, row in zip(tolls, rows)), aim * whole)
        self.assertEqual(product_of(tolls, limits), product_of(aims, numbers))
        return (numbers, tolls, whole)

    def test_by_hand(self):
        self.assertEqual(self.judge([[1, 1], [1, 3]], [4, 6], [1, 2]), ([6, 2], [1, 1], 2))
        self.assertEqual(self.judge([[2]], [3], [5]), ([3], [5], 2))
        self.assertEqual(self.judge([[3, 2]], [7], [0, 0]), ([0, 0], [0], 1))

    def test_no_rows_and_no_aims(self):
        self.assertEqual(self.judge([], [], []), ([], [], 1))
        self.assertEqual(self.judge([], [], [0, -2]), ([0, 0], [], 1))
        self.assertEqual(self.judge([[], []], [3, 0], []), ([], [0, 0], 1))
        self.assertIsNone(self.judge([], [], [-1, 2]))

    def test_endless(self):
        self.assertIsNone(self.judge([[-1]], [0], [1]))
        self.assertIsNone(self.judge([[1, -1]], [5], [1, 0]))
        self.assertIsNone(self.judge([[1, -2], [-3, 1]], [5, 0], [2, -1]))
        self.assertIsNone(self.judge([[0, 1]], [5], [1, 1]))
        with self.assertRaises(Endless) as caught:
            solve([[2, -4]], [10], [1, -1])
        self.assertEqual(vars(caught.exception), {"ray": (2, 1)})

    def test_below_zero(self):
        self.assertEqual(self.judge([[-1, 1]], [2], [-1, 1]), ([0, 2], [1], 1))
        self.assertEqual(self.judge([[1, 1]], [2], [-1, -3]), ([0, 0], [0], 1))

    def test_rows_that_say_the_same_twice(self):
        self.judge([[1, 1], [2, 2], [1, 1], [0, 0]], [4, 8, 4, 0], [1, 1])
        self.judge([[1, 2]] * 9, [3] * 9, [3, 4])

    def test_many_rows_in_one_corner(self):
        # Tasks on which simpler rules of exchange go round for ever.
        self.judge([[1, -11, -5, 18], [1, -3, -1, 2], [1, 0, 0, 0]], [0, 0, 1], [10, -57, -9, -24])
        self.judge([[1, -240, -4, 36], [1, -180, -1, 6], [0, 0, 1, 0]], [0, 0, 1], [3, -600, 8, -24])
        self.judge([[-2, -9, 1, 9], [1, 3, -1, -6], [2, 3, -1, -12]], [0, 0, 2], [2, 3, -1, -12])
        rng = random.Random(91)
        for _ in range(60):
            count, many = rng.randint(1, 5), rng.randint(1, 12)
            rows = [[rng.randint(-3, 3) for _ in range(count)] for _ in range(many)]
            self.judge(rows, [0] * many, [rng.randint(-3, 3) for _ in range(count)])

    def test_random(self):
        rng = random.Random(92)
        endless = 0
        for _ in range(400):
            count, many = rng.randint(0, 5), rng.randint(0, 5)
            rows = [[rng.randint(-3, 5) for _ in range(count)] for _ in range(many)]
            limits = [rng.choice([0, 0, 1, 6, 10]) for _ in range(many)]
            aims = [rng.randint(-2, 5) for _ in range(count)]
            endless += self.judge(rows, limits, aims) is None
        self.assertGreater(endless, 40)

    def test_great_numbers(self):
        rng = random.Random(93)
        for _ in range(10):
            rows = [[rng.randint(1, BIG) for _ in range(6)] for _ in range(6)]
            self.judge(rows, [rng.randint(0, BIG) for _ in range(6)], [rng.randint(-BIG, BIG) for _ in range(6)])

    def test_forty_rows_and_aims(self):
        rng = random.Random(94)
        rows = [[rng.randint(0, 9) for _ in range(40)] for _ in range(40)]
        self.judge(rows, [rng.randint(0, 30) for _ in range(40)], [rng.randint(0, 9) for _ in range(40)])

    def test_tuples_and_names(self):
        self.assertEqual(solve(rows=((2,),), limits=(3,), aims=(5,)), ([3], [5], 2))


if __name__ == "__main__":
    unittest.main()
