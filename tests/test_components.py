"""Components of nets."""

import random
import unittest

from playhall.components import components
from tests.helpers import spread


class ComponentsTest(unittest.TestCase):
    def test_random_nets(self):
        rng = random.Random(41)
        for _ in range(200):
            count = rng.randint(0, 7)
            ways = [[to for to in range(count) if rng.random() < 0.25] * rng.randint(1, 2) for _ in range(count)]
            numbers = components(ways)
            reached = [spread([node], lambda at: ways[at]) for node in range(count)]
            for node in range(count):
                for other in range(count):
                    together = other in reached[node] and node in reached[other]
                    self.assertEqual(numbers[node] == numbers[other], together)
                for to in ways[node]:
                    self.assertLessEqual(numbers[node], numbers[to])
            self.assertEqual(set(numbers), set(range(len(set(numbers)))))

    def test_long_chains(self):
        count = 20000
        self.assertEqual(components([[node + 1] for node in range(count - 1)] + [[]]), list(range(count)))
        self.assertEqual(components([[]] + [[node] for node in range(count - 1)]), list(range(count))[::-1])
        self.assertEqual(set(components([[(node + 1) % count] for node in range(count)])), {0})


if __name__ == "__main__":
    unittest.main()
