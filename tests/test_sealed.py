"""Point 54: lies that pay in sealed rounds."""

import inspect
import random
import unittest

from playhall.deciding import shortest_tree
from playhall.rules import Rule
from playhall.sealed import LEAST_GAIN, first_lie, lies
from tests.helpers import plain_rule, random_rule


def plain_lies(rule, least):
    found = []
    for combination in rule.full:
        for party in range(rule.parties):
            for told in range(rule.sizes[party]):
                own = combination[party]
                other = list(combination)
                other[party] = told
                gain = rule.worth(party, own, rule(tuple(other))) - rule.worth(party, own, rule(combination))
                if told != own and gain > 0 and gain >= least:
                    found.append((party, combination, told))
    return found


class SealedTest(unittest.TestCase):
    def test_random_rules(self):
        rng = random.Random(231)
        found = {True: 0, False: 0}
        for _ in range(150):
            rule = random_rule(rng, parties=rng.randint(1, 3), hands=3, top=rng.choice([1, 3, 9]))
            for least in (1, 2, 3, 5, 100):
                expected = plain_lies(rule, least)
                self.assertEqual(list(lies(rule, least=least)), expected)
                self.assertEqual(first_lie(rule, least=least), expected[0] if expected else None)
                found[bool(expected)] += 1
            self.assertEqual(list(lies(rule)), plain_lies(rule, 1))
            self.assertEqual(first_lie(rule), first_lie(rule=rule, least=1))
        self.assertGreater(min(found.values()), 50)

    def test_by_hand(self):
        # The outcome is the greater hand of the two that are told; party 0 wants it small, party 1 great.
        worths = [[[0, -1, -2]] * 3, [[0, 5, 5]] * 3]
        rule = Rule(worths, [max(own, other) for own in range(3) for other in range(3)])
        self.assertEqual(LEAST_GAIN, 1)
        self.assertEqual(list(lies(rule)), [
            (1, (0, 0), 1), (1, (0, 0), 2), (0, (1, 0), 0), (0, (2, 0), 0), (0, (2, 0), 1), (0, (2, 1), 0), (0, (2, 1), 1)])
        self.assertEqual(list(lies(rule, least=2)), [(1, (0, 0), 1), (1, (0, 0), 2), (0, (2, 0), 0)])
        self.assertEqual(list(lies(rule, least=6)), [])
        self.assertEqual(first_lie(rule), (1, (0, 0), 1))
        self.assertIsNone(first_lie(rule, least=6))

    def test_no_lie_pays_where_there_is_a_plain_tree(self):
        rng = random.Random(232)
        for _ in range(60):
            rule = plain_rule(rng, [rng.randint(1, 4), rng.randint(1, 4)], rng.randint(1, 8))
            self.assertIsNotNone(shortest_tree(rule))
            self.assertEqual(list(lies(rule)), [])
            self.assertIsNone(first_lie(rule))

    def test_it_is_a_generator(self):
        self.assertTrue(inspect.isgeneratorfunction(lies))
        rule = Rule([[[5, 0], [0, 0]]], [1, 0])
        found = lies(rule)
        self.assertEqual(next(found), (0, (0,), 1))
        self.assertEqual(list(found), [])

    def test_large(self):
        rng = random.Random(233)
        worths = [[[rng.randint(0, 10 ** 40 - 1) for _ in range(60)] for _ in range(size)] for size in (120, 5)]
        rule = Rule(worths, [rng.randrange(60) for _ in range(600)])
        self.assertEqual(list(lies(rule, least=10 ** 39)), plain_lies(rule, 10 ** 39))


if __name__ == "__main__":
    unittest.main()
