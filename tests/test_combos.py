"""Point 45: combinations."""

import inspect
import unittest
from itertools import product

from playhall.combos import all_combinations, combinations


class CombosTest(unittest.TestCase):
    def test_order(self):
        self.assertEqual(list(combinations([[0, 2], [5], [1, 0, 4]])), list(product([0, 2], [5], [1, 0, 4])))
        self.assertEqual(list(combinations(sides=((3, 1), (2, 0)))), [(3, 2), (3, 0), (1, 2), (1, 0)])
        self.assertEqual(list(combinations([[7]])), [(7,)])

    def test_no_side_and_empty_sides(self):
        self.assertEqual(list(combinations([])), [()])
        self.assertEqual(list(combinations([[]])), [])
        self.assertEqual(list(combinations([[1, 2], [], [3]])), [])
        self.assertEqual(list(combinations([list(range(120))] * 7 + [[]])), [])

    def test_repeated_hands(self):
        self.assertEqual(list(combinations([[1, 1], [2, 2]])), [(1, 2)] * 4)
        self.assertEqual(list(combinations([[1, 0, 1], (4,)])), [(1, 4), (0, 4), (1, 4)])

    def test_it_is_a_generator(self):
        self.assertTrue(inspect.isgeneratorfunction(combinations))
        found = combinations([[0, 1], [0, 1]])
        self.assertEqual(next(found), (0, 0))
        self.assertEqual(list(found), [(0, 1), (1, 0), (1, 1)])
        sides = [[0], [1]]
        list(combinations(sides))
        self.assertEqual(sides, [[0], [1]])

    def test_the_list_for_boxes(self):
        for sides in ([], [[]], [[7]], [[0, 2], [5], [1, 0, 4]], ((3, 1), (2, 0)), [[1, 1], [2, 2]]):
            self.assertEqual(all_combinations(sides), list(combinations(sides)))


if __name__ == "__main__":
    unittest.main()
