"""Point 39: leagues and ratings."""

import random
import unittest
from math import gcd

from playhall.ratings import leagues, ratings
from playhall.seasons import Season
from tests.helpers import spread


def expected_leagues(wins):
    """The leagues in their order, by the words of point 39."""
    players = range(len(wins))
    reached = [spread([player], lambda at: [other for other in players if wins[at][other] > 0]) for player in players]
    left = []
    for player in players:
        league = [other for other in players if other in reached[player] and player in reached[other]]
        if league not in left:
            left.append(league)
    ordered = []
    while left:
        free = [league for league in left if not any(
            wins[winner][loser] for other in left if other != league for winner in other for loser in league)]
        ordered.append(min(free, key=min))
        left.remove(ordered[-1])
    return ordered


class RatingsTest(unittest.TestCase):
    def judge(self, wins):
        copies = [list(row) for row in wins]
        found = leagues(wins)
        self.assertEqual(found, expected_leagues(wins))
        rated = ratings(wins)
        self.assertEqual([list(row) for row in wins], copies)
        self.assertEqual([[player for player, _ in league] for league in rated], found)
        for league in rated:
            self.assertIsInstance(league, list)
            self.assertEqual(gcd(*[rating for _, rating in league]), 1)
            for player, rating in league:
                self.assertGreater(rating, 0)
                got = sum(wins[player][other] * worth for other, worth in league)
                self.assertEqual(got, sum(wins[other][player] for other, _ in league) * rating)
        return rated

    def test_nobody(self):
        self.assertEqual((leagues([]), ratings([])), ([], []))

    def test_nobody_has_won_anything(self):
        self.assertEqual(leagues([[0] * 3] * 3), [[0], [1], [2]])
        self.assertEqual(self.judge([[0] * 3] * 3), [[(0, 1)], [(1, 1)], [(2, 1)]])
        self.assertEqual(self.judge([[0]]), [[(0, 1)]])

    def test_one_league(self):
        self.assertEqual(self.judge([[0, 3], [1, 0]]), [[(0, 3), (1, 1)]])
        self.assertEqual(self.judge([[0, 4], [6, 0]]), [[(0, 2), (1, 3)]])
        self.assertEqual(self.judge([[0, 1, 0], [0, 0, 1], [1, 0, 0]]), [[(0, 1), (1, 1), (2, 1)]])

    def test_chains_of_leagues(self):
        # The last two stand first: they have won from the others, who have not won from them.
        wins = [[0, 1, 0, 0], [1, 0, 0, 0], [5, 0, 0, 2], [0, 0, 4, 0]]
        self.assertEqual(leagues(wins), [[2, 3], [0, 1]])
        self.assertEqual(self.judge(wins), [[(2, 1), (3, 2)], [(0, 1), (1, 1)]])
        self.assertEqual(leagues([[0, 1, 0], [0, 0, 1], [0, 0, 0]]), [[0], [1], [2]])
        self.assertEqual(leagues([[0, 0, 0], [1, 0, 0], [0, 1, 0]]), [[2], [1], [0]])

    def test_leagues_that_do_not_touch(self):
        wins = [[0, 0, 0, 0], [0, 0, 0, 2], [0, 0, 0, 0], [0, 1, 0, 0]]
        self.assertEqual(leagues(wins), [[0], [1, 3], [2]])
        # The free one with the least player is next, also when others have waited longer.
        wins = [[0, 0, 0, 0], [1, 0, 0, 0], [0, 0, 0, 0], [0, 0, 1, 0]]
        self.assertEqual(leagues(wins), [[1], [0], [3], [2]])
        self.judge(wins)

    def test_wins_from_oneself(self):
        self.assertEqual(self.judge([[7]]), [[(0, 1)]])
        self.assertEqual(self.judge([[5, 3], [1, 9]]), [[(0, 3), (1, 1)]])
        self.assertEqual(self.judge([[5, 0], [0, 0]]), [[(0, 1)], [(1, 1)]])

    def test_random(self):
        rng = random.Random(81)
        several = 0
        for _ in range(300):
            count = rng.randint(1, 8)
            share = rng.choice([0.15, 0.3, 0.8])
            wins = [[rng.choice([1, 2, 6, 10 ** 20, 10 ** 40 - 1]) if rng.random() < share else 0 for _ in range(count)]
                    for _ in range(count)]
            several += len([league for league in self.judge(wins) if len(league) > 1]) > 1
        self.assertGreater(several, 1)

    def test_random_leagues_side_by_side(self):
        rng = random.Random(82)
        for _ in range(100):
            order = rng.sample(range(8), 8)
            wins = [[0] * 8 for _ in range(8)]
            for one, other in zip(order, order[1:]):
                wins[one][other] = rng.randint(1, 9)
                wins[other][one] = rng.choice([0, 1, 6])
            self.judge(wins)

    def test_wins_of_a_season(self):
        season = Season(["a", "b", "c"], [("a", "b"), ("b", "c"), ("c", "a")], stake=3)
        for meeting in range(3):
            season.enter(meeting, 2)
        self.assertEqual(self.judge(season.wins), [[(0, 1), (1, 1), (2, 1)]])

    def test_tuples_names_and_new_lists(self):
        wins = ((0, 3), (1, 0))
        leagues(wins=wins)[0].clear()
        ratings(wins=wins)[0].clear()
        self.assertEqual((leagues(wins), ratings(wins)), ([[0, 1]], [[(0, 3), (1, 1)]]))


if __name__ == "__main__":
    unittest.main()
