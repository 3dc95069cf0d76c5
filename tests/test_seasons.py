"""Point 35: seasons."""

import unittest

from playhall.errors import BadPoints, BadSeason, Entered, NoMeeting, NothingEntered
from playhall.seasons import Season
from tests.helpers import Checks

PLAYERS = ["cid", "ann", "bob", "x.y"]
MEETINGS = [("cid", "ann"), ("ann", "cid"), ("bob", "ann"), ("cid", "bob"), ("cid", "ann")]


def state(season):
    return (season.points, season.entered, season.left, season.ranking, season.wins,
            season.players, season.meetings, season.stake)


class SeasonTest(Checks):
    def bad(self, part, index, players, meetings):
        self.refused(BadSeason, {"part": part, "index": index}, Season, players, meetings)

    def test_bad_players(self):
        self.bad("players", 0, [], [])
        self.bad("players", 0, [], [("a", "a")])
        self.bad("players", 0, ["A"], [])
        self.bad("players", 1, ["a", "a", "B"], [])
        self.bad("players", 2, ["a", "b.c", "b.c.d"], [])
        self.bad("players", 1, ["a", "", "a"], [("a", "a")])
        self.bad("players", 1, ("a", "abcdefghijklm"), ())

    def test_bad_meetings(self):
        self.bad("meetings", 0, ["a", "b"], [("a", "a"), ("a", "z")])
        self.bad("meetings", 1, ["a", "b"], [("a", "b"), ("a", "z"), ("b", "b")])
        self.bad("meetings", 2, ["a", "b"], [("a", "b"), ("a", "b"), ("z", "a")])
        self.bad("meetings", 0, ["a"], [("z", "z")])

    def test_attributes(self):
        season = Season(PLAYERS, MEETINGS)
        self.assertEqual(season.players, ("cid", "ann", "bob", "x.y"))
        self.assertEqual(season.meetings, tuple(MEETINGS))
        self.assertEqual(season.stake, 2)
        self.assertEqual(Season(players=("a",), meetings=(), stake=10 ** 6).stake, 10 ** 6)

    def test_at_first(self):
        season = Season(PLAYERS, MEETINGS)
        self.assertEqual(list(season.points.items()), [("cid", 0), ("ann", 0), ("bob", 0), ("x.y", 0)])
        self.assertEqual((season.entered, season.left, season.ranking), ([], [0, 1, 2, 3, 4], PLAYERS))
        self.assertEqual(season.wins, [[0, 0, 0, 0]] * 4)
        season = Season(["a"], [])
        self.assertEqual((season.points, season.left, season.ranking, season.wins), ({"a": 0}, [], ["a"], [[0]]))

    def test_entering(self):
        season = Season(PLAYERS, MEETINGS, stake=5)
        self.assertIsNone(season.enter(3, 5))
        self.assertIsNone(season.enter(meeting=1, points=2))
        self.assertEqual(list(season.points.items()), [("cid", 8), ("ann", 2), ("bob", 0), ("x.y", 0)])
        self.assertEqual((season.entered, season.left), ([(3, 5), (1, 2)], [0, 2, 4]))
        season.enter(0, 1)
        season.enter(2, 0)
        self.assertEqual(season.points, {"cid": 9, "ann": 11, "bob": 0, "x.y": 0})
        self.assertEqual(season.entered, [(3, 5), (1, 2), (0, 1), (2, 0)])
        self.assertEqual(season.ranking, ["ann", "cid", "bob", "x.y"])

    def test_wins_of_players_who_meet_twice(self):
        season = Season(PLAYERS, MEETINGS, stake=5)
        season.enter(4, 3)
        season.enter(1, 4)
        season.enter(2, 5)
        self.assertEqual(season.wins, [[0, 4, 0, 0], [6, 0, 0, 0], [0, 5, 0, 0], [0, 0, 0, 0]])

    def test_equal_points(self):
        season = Season(["d", "c", "b", "a"], [("a", "b"), ("c", "d"), ("b", "d")])
        season.enter(0, 1)
        season.enter(1, 1)
        self.assertEqual(season.ranking, ["d", "c", "b", "a"])
        season.enter(2, 2)
        self.assertEqual(season.ranking, ["b", "d", "c", "a"])

    def test_refused(self):
        season = Season(PLAYERS, MEETINGS, stake=5)
        season.enter(1, 5)
        before = state(season)
        for meeting in (-1, -5, 5, 10 ** 40):
            self.refused(NoMeeting, {"meeting": meeting}, season.enter, meeting, 9)
            self.refused(NoMeeting, {"meeting": meeting}, season.enter, meeting, 0)
        self.refused(Entered, {"meeting": 1}, season.enter, 1, 6)
        self.refused(Entered, {"meeting": 1}, season.enter, 1, 5)
        for points in (-1, 6, 10 ** 40):
            self.refused(BadPoints, {"offered": points}, season.enter, 0, points)
        self.assertEqual(state(season), before)
        self.refused(NoMeeting, {"meeting": 0}, Season(["a"], []).enter, 0, 0)

    def test_take_back(self):
        season = Season(PLAYERS, MEETINGS, stake=5)
        self.refused(NothingEntered, {}, season.take_back)
        states = [state(season)]
        for meeting, points in ((2, 1), (0, 5), (4, 0)):
            season.enter(meeting, points)
            states.append(state(season))
        for expected in ((4, 0), (0, 5), (2, 1)):
            self.assertEqual(state(season), states.pop())
            self.assertEqual(season.take_back(), expected)
        self.assertEqual(state(season), states[0])
        self.refused(NothingEntered, {}, season.take_back)
        season.enter(0, 2)
        self.assertEqual(season.entered, [(0, 2)])

    def test_what_was_returned_or_passed_and_then_changed(self):
        players, meetings = list(PLAYERS), list(MEETINGS)
        season = Season(players, meetings)
        season.enter(0, 2)
        before = state(season)
        players.clear()
        meetings.pop()
        season.points["cid"] = 9
        season.entered.clear()
        season.left.append(0)
        season.ranking.reverse()
        season.wins[0][1] = 7
        season.wins.clear()
        self.assertEqual(state(season), before)

    def test_two_seasons(self):
        one, other = Season(PLAYERS, MEETINGS), Season(PLAYERS, MEETINGS)
        one.enter(0, 1)
        self.assertEqual(other.entered, [])
        self.assertNotEqual(one, Season(PLAYERS, MEETINGS))


if __name__ == "__main__":
    unittest.main()
