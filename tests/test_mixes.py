"""Point 62: lowest terms."""

import random
import unittest
from math import gcd

from playhall.houseerrors import InvalidMix
from playhall.mixes import lowest
from tests.helpers import Checks


class MixTest(Checks):
    def test_by_hand(self):
        for mix, expected in (((0, 0, 1), (0, 0, 1)), ((0, 0, 12), (0, 0, 1)), ((4, 6, 8), (2, 3, 4)), ((-4, 6, 2), (-2, 3, 1)),
                              ((-4, -6, 9), (-4, -6, 9)), ((0, 6, 9), (0, 2, 3)), ((6, 0, 9), (2, 0, 3)), ((5, 7, 1), (5, 7, 1)),
                              ((6, 10, 15), (6, 10, 15)), ((-6, 0, 6), (-1, 0, 1)), ((-7, -14, 7), (-1, -2, 1))):
            found = lowest(mix)
            self.assertEqual(found, expected)
            self.assertIsInstance(found, tuple)
            self.assertEqual(lowest(mix=expected), expected)

    def test_random(self):
        rng = random.Random(291)
        for _ in range(200):
            most = rng.choice([6, 100, 10 ** 60])
            mix = (rng.randint(-most, most), rng.randint(-most, most), rng.randint(1, most))
            times = rng.randint(1, 10)
            found = lowest(tuple(times * number for number in mix))
            self.assertEqual(gcd(*found), 1)
            self.assertGreater(found[2], 0)
            self.assertEqual([found[0] * mix[2], found[1] * mix[2]], [mix[0] * found[2], mix[1] * found[2]])

    def test_60_digits(self):
        great = 10 ** 60
        self.assertEqual(lowest((great, -great, great)), (1, -1, 1))
        self.assertEqual(lowest((great, great - 1, great)), (great, great - 1, great))

    def test_fewer_than_one_beat(self):
        for mix in ((1, 2, 0), (0, 0, 0), (1, 2, -1), (-4, -2, -2), (1, 1, -10 ** 60)):
            self.refused(InvalidMix, {"mix": mix}, lowest, mix)


if __name__ == "__main__":
    unittest.main()
