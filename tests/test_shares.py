"""Points 41 to 43: worths, shares and balanced teams."""

import random
import unittest
from fractions import Fraction
from itertools import combinations, permutations
from math import gcd

from playhall.errors import BadWorths
from playhall.shares import balanced_teams, least_purse, mean_share, steady_share
from tests.helpers import Checks

CALLS = (steady_share, balanced_teams, least_purse, mean_share)
BIG = 10 ** 40 - 1


def members(team):
    return [player for player in range(5) if team >> player & 1]


def random_worths(rng, count, top):
    return [0] + [rng.randint(0, top) for _ in range((1 << count) - 1)]


def solved(rows, right):
    """The solution of as many equations as unknowns, or None if there is not exactly one."""
    rows = [[Fraction(number) for number in row] + [Fraction(worth)] for row, worth in zip(rows, right)]
    for column in range(len(rows)):
        found = [at for at in range(column, len(rows)) if rows[at][column] != 0]
        if not found:
            return None
        rows[column], rows[found[0]] = rows[found[0]], rows[column]
        rows[column] = [number / rows[column][column] for number in rows[column]]
        for at in range(len(rows)):
            if at != column:
                rows[at] = [own - rows[at][column] * other for own, other in zip(rows[at], rows[column])]
    return [row[-1] for row in rows]


def plain_purse(worths):
    """The least purse: the least sum of a corner of all shares by which each team gets its worth."""
    count = len(worths).bit_length() - 1
    sums = []
    for teams in combinations(range(1, len(worths)), count):
        parts = solved([[team >> player & 1 for player in range(count)] for team in teams], [worths[team] for team in teams])
        if parts and all(sum(parts[player] for player in members(team)) >= worths[team] for team in range(len(worths))):
            sums.append(sum(parts))
    return min(sums)


class WorthsTest(Checks):
    def bad(self, index, worths):
        for call in CALLS:
            self.refused(BadWorths, {"index": index}, call, worths)
            self.refused(BadWorths, {"index": index}, call, worths=tuple(worths))

    def test_lengths(self):
        for length in (0, 1, 3, 5, 31, 33, 63, 64, 65):
            self.bad(length, [0] * length)
            self.bad(length, [5, -1] * (length // 2) + [0] * (length % 2))
        for length in (2, 4, 8, 16, 32):
            for call in CALLS:
                call([0] * length)

    def test_entries(self):
        self.bad(0, [1, 0])
        self.bad(0, [-1, 0])
        self.bad(0, [2, -1, -1, 0])
        self.bad(1, [0, -1])
        self.bad(2, [0, 5, -1, -3])
        self.bad(31, [0] * 31 + [-BIG])


class SteadyTest(unittest.TestCase):
    def judge(self, worths):
        """Judges what is said of the worths by the words of point 42; returns whether there is a steady share."""
        copy = list(worths)
        count = len(worths).bit_length() - 1
        share, balanced, purse = steady_share(worths), balanced_teams(worths), least_purse(worths)
        self.assertEqual(list(worths), copy)
        self.assertEqual((share is None) + (balanced is None), 1)
        self.assertIsInstance(purse, tuple)
        number, divisor = purse
        self.assertGreater(divisor, 0)
        self.assertEqual(gcd(number, divisor), 1)
        self.assertEqual(share is not None, number == divisor * worths[-1])
        if share is not None:
            parts, whole = share
            self.assertIsInstance(share, tuple)
            self.assertIsInstance(parts, list)
            self.assertEqual(len(parts), count)
            self.assertGreaterEqual(whole, 1)
            self.assertEqual(gcd(whole, *parts), 1)
            self.assertEqual(sum(parts), worths[-1] * whole)
            for team in range(len(worths)):
                self.assertGreaterEqual(sum(parts[player] for player in members(team)), worths[team] * whole)
            return True
        teams, times = balanced
        self.assertIsInstance(balanced, tuple)
        self.assertIsInstance(teams, list)
        self.assertGreaterEqual(times, 1)
        numbers = [team for team, _ in teams]
        self.assertEqual(numbers, sorted(set(numbers)))
        for team, weight in teams:
            self.assertTrue(1 <= team < len(worths))
            self.assertGreater(weight, 0)
        for player in range(count):
            self.assertEqual(sum(weight for team, weight in teams if player in members(team)), times)
        total = sum(weight * worths[team] for team, weight in teams)
        self.assertGreater(total, times * worths[-1])
        # Whatever each team gets its worth of, balanced teams show to be at least their worths' mean.
        self.assertGreaterEqual(Fraction(number, divisor), Fraction(total, times))
        return False

    def test_random(self):
        rng = random.Random(101)
        steady = 0
        for _ in range(300):
            count = rng.randint(1, 5)
            worths = random_worths(rng, count, rng.choice([1, 3, 20, BIG]))
            worths[-1] = rng.choice([worths[-1], 2 * max(worths), 3 * max(worths)])
            steady += self.judge(worths)
        self.assertTrue(60 < steady < 240, steady)

    def test_least_purse(self):
        rng = random.Random(102)
        for count, many in ((1, 5), (2, 30), (3, 40), (4, 4)):
            for _ in range(many):
                worths = random_worths(rng, count, rng.choice([2, 9]))
                self.assertEqual(Fraction(*least_purse(worths)), plain_purse(worths))

    def test_by_hand(self):
        pairs = [0, 0, 0, 4, 0, 4, 4, 5]
        self.assertEqual(least_purse(pairs), (6, 1))
        self.assertFalse(self.judge(pairs))
        pairs[-1] = 6
        self.assertEqual(steady_share(pairs), ([2, 2, 2], 1))
        self.assertEqual(least_purse(worths=[0, 0, 0, 1, 0, 1, 1, 0]), (3, 2))
        self.assertEqual(steady_share(worths=[0, 0, 0, 3, 0, 3, 3, 9])[1], 1)
        self.assertTrue(self.judge([0, 7]))
        self.assertEqual(steady_share([0, 7]), ([7], 1))

    def test_teams_of_one(self):
        # The players' own worths are more than what all have together.
        self.assertFalse(self.judge([0, 3, 5, 7]))
        self.assertEqual(balanced_teams(worths=[0, 3, 5, 7]), ([(1, 1), (2, 1)], 1))
        self.assertEqual(least_purse([0, 3, 5, 7]), (8, 1))

    def test_worths_of_0(self):
        for count in range(1, 6):
            worths = [0] * (1 << count)
            self.assertEqual(steady_share(worths), ([0] * count, 1))
            self.assertEqual(least_purse(worths), (0, 1))
            self.assertIsNone(balanced_teams(worths))
            self.assertTrue(self.judge([*worths[:-1], 1]))
            if count > 1:
                self.assertFalse(self.judge([0, 1, *worths[2:]]))

    def test_what_is_returned_is_new(self):
        worths = [0, 3, 5, 7]
        balanced_teams(worths)[0].clear()
        self.assertEqual(len(balanced_teams(worths)[0]), 2)
        steady_share([0, 7])[0].clear()
        self.assertEqual(steady_share([0, 7]), ([7], 1))


class MeanShareTest(unittest.TestCase):
    def test_random(self):
        rng = random.Random(103)
        for count in (1, 2, 3, 4, 5, 5):
            for top in (0, 4, BIG):
                worths = random_worths(rng, count, top)
                sums = [0] * count
                orders = list(permutations(range(count)))
                for order in orders:
                    team = 0
                    for player in order:
                        sums[player] += worths[team | 1 << player] - worths[team]
                        team |= 1 << player
                parts, whole = mean_share(worths)
                self.assertEqual([Fraction(part, whole) for part in parts], [Fraction(total, len(orders)) for total in sums])
                self.assertGreaterEqual(whole, 1)
                self.assertEqual(gcd(whole, *parts), 1)

    def test_by_hand(self):
        self.assertEqual(mean_share([0, 3, 5, 7]), ([5, 9], 2))
        self.assertEqual(mean_share(worths=(0, 4, 0, 0)), ([2, -2], 1))
        self.assertEqual(mean_share([0, 0]), ([0], 1))


if __name__ == "__main__":
    unittest.main()
