"""Point 36: who can still be first."""

import random
import unittest
from itertools import product

from playhall.errors import NoPlayer
from playhall.races import completion, most_points, overfull_team
from playhall.seasons import Season
from tests.helpers import Checks


def entered_so(season, rows):
    """A new season in which these meetings are entered, too."""
    later = Season(season.players, season.meetings, stake=season.stake)
    for meeting, points in [*season.entered, *rows]:
        later.enter(meeting, points)
    return later


class RacesTest(Checks):
    def judge(self, season):
        """Judges what is said of each player by the words of point 36; returns who can be first."""
        can = []
        for player in season.players:
            before = (season.entered, season.left)
            most, done, team = most_points(season, player), completion(season, player), overfull_team(season, player)
            self.assertEqual((season.entered, season.left), before)
            ahead = [meeting for meeting in season.left if player in season.meetings[meeting]]
            self.assertEqual(most, season.points[player] + season.stake * len(ahead))
            self.assertEqual((done is None) + (team is None), 1)
            if done is not None:
                self.assertEqual([meeting for meeting, _ in done], season.left)
                points = entered_so(season, done).points
                self.assertEqual(max(points.values()), points[player])
                can.append(player)
            else:
                self.assertEqual(team, [other for other in season.players if other in team and other != player])
                inner = [meeting for meeting in season.left if set(season.meetings[meeting]) <= set(team)]
                total = sum(season.points[other] for other in team) + season.stake * len(inner)
                self.assertGreater(total, len(team) * most)
        return can

    def test_random_seasons(self):
        rng = random.Random(61)
        shut = 0
        for _ in range(300):
            players = ["e", "d", "c", "b", "a"][:rng.randint(2, 5)]
            season = Season(players, [rng.sample(players, 2) for _ in range(rng.randint(0, 9))], stake=rng.choice([1, 2, 3]))
            for meeting in rng.sample(season.left, rng.randint(0, len(season.left))):
                season.enter(meeting, rng.choice([0, season.stake, rng.randint(0, season.stake)]))
            shut += len(players) - len(self.judge(season))
        self.assertGreater(shut, 100)

    def test_as_all_completions_tell(self):
        rng = random.Random(62)
        for _ in range(60):
            players = ["a", "b", "c", "d"]
            season = Season(players, [rng.sample(players, 2) for _ in range(6)], stake=2)
            for meeting in rng.sample(season.left, rng.randint(2, 6)):
                season.enter(meeting, rng.choice([0, 2, 1]))
            can = {player: True for points in product(range(3), repeat=len(season.left))
                   for later in [entered_so(season, list(zip(season.left, points))).points]
                   for player in players if later[player] == max(later.values())}
            self.assertEqual(self.judge(season), [player for player in players if player in can])

    def test_all_entered_none_entered_and_no_meetings(self):
        meetings = [("a", "b"), ("b", "c"), ("a", "b")]
        season = Season(["a", "b", "c"], meetings)
        # Two meetings of `a` and `b` divide 4 points, so `c` with its 2 points can be first.
        self.assertEqual(self.judge(season), ["a", "b", "c"])
        for meeting, points in ((0, 2), (1, 0), (2, 1)):
            season.enter(meeting, points)
        self.assertEqual(self.judge(season), ["a"])
        self.assertEqual(completion(season, "a"), [])
        self.assertEqual((completion(season, "b"), overfull_team(season, "b")), (None, ["a"]))
        self.assertEqual(self.judge(Season(["a", "b"], [])), ["a", "b"])
        self.assertEqual(self.judge(Season(["a"], [])), ["a"])

    def test_a_team_that_is_overfull_by_its_own_meetings(self):
        season = Season(["z", "a", "b"], [("z", "a"), ("a", "b"), ("b", "a"), ("a", "b")], stake=2)
        season.enter(0, 1)
        self.assertEqual(most_points(season, "z"), 1)
        self.assertEqual((completion(season, "z"), overfull_team(season, "z")), (None, ["a", "b"]))
        self.judge(season)

    def test_most_points(self):
        season = Season(["a", "b", "c"], [("a", "b"), ("b", "a"), ("c", "b"), ("a", "c")], stake=7)
        season.enter(1, 3)
        self.assertEqual([most_points(season, player) for player in "abc"], [18, 17, 14])
        self.assertEqual(most_points(season=season, player="c"), 14)

    def test_great_seasons(self):
        rng = random.Random(63)
        players = [letter for letter in "abcdefghijkl"]
        for _ in range(10):
            season = Season(players, [rng.sample(players, 2) for _ in range(40)], stake=10 ** 6)
            for meeting in rng.sample(season.left, rng.randint(15, 35)):
                season.enter(meeting, rng.randint(0, 10 ** 6))
            self.judge(season)

    def test_unknown_players(self):
        season = Season(["a", "b"], [("a", "b")])
        for call in (most_points, completion, overfull_team):
            self.refused(NoPlayer, {"name": "z"}, call, season, "z")
            self.refused(NoPlayer, {"name": "z"}, call, season=season, player="z")

    def test_new_lists(self):
        season = Season(["a", "b", "c"], [("a", "b"), ("b", "c")])
        season.enter(0, 0)
        completion(season, "b").clear()
        self.assertEqual(len(completion(season=season, player="b")), 1)
        season.enter(1, 2)
        overfull_team(season, "c").clear()
        self.assertEqual(overfull_team(season, "c"), ["b"])


if __name__ == "__main__":
    unittest.main()
