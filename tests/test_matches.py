"""Point 70: matches and the seasons of halls."""

import random
import unittest

from playhall.errors import BadHall, BadPlay, Entered
from playhall.gametext import read_game
from playhall.halls import Hall
from playhall.matches import enter_results, match_points, met_pairs, season_of
from playhall.positions import legal
from playhall.seasons import Season
from tests.helpers import Checks

# The first one to make three steps wins; a draw is a handshake.
RACE = ("players {0} {1}\ncounter a 3 0\ncounter b 3 0\ncounter end 1 0\nmove astep {0} if b<=2 end=0 do a+1\n"
        "move bstep {1} if a<=2 end=0 do b+1\nmove shake {0} if a<=2 b<=2 end=0 do end+1\ngoal {0} if a=3\ngoal {1} if b=3")


def race(first, second):
    return read_game(RACE.format(first, second))


SOLO = read_game("players ann\ncounter a 1 0\nmove up ann do a+1")
THREE = read_game("players ann bob cid\ncounter a 1 0\nmove up ann do a+1")
# Goals with the labels of players that are neither first nor second do not count.
BOTH = read_game("players ann bob\ncounter a 3 0\nmove up ann do a+1\ngoal cid\ngoal ann if a>=1 a<=2\ngoal bob if a>=2\ngoal up if a=0")


class MatchPointsTest(unittest.TestCase):
    def test_both_labels_one_and_none(self):
        for stake, half in ((0, 0), (1, 0), (2, 1), (3, 1), (7, 3), (10 ** 6, 5 * 10 ** 5)):
            self.assertEqual([match_points(BOTH, (value,), stake) for value in range(4)], [half, stake, half, 0])
        self.assertEqual(match_points(game=BOTH, position=(1,), stake=9), 9)

    def test_games_without_goals(self):
        game = read_game("players ann bob")
        self.assertEqual(match_points(game, (), 5), 2)
        only = read_game("players ann bob\ngoal bob")
        self.assertEqual(match_points(only, (), 5), 0)
        self.assertEqual(match_points(read_game("players ann x.y\ngoal x.y"), (), 5), 0)
        self.assertEqual(match_points(read_game("players x.y ann\ngoal x.y"), (), 5), 5)


class SeasonOfTest(Checks):
    def test_season_of(self):
        hall = Hall([], [("one", race("ann", "bob")), ("two", race("cid", "ann")), ("tri", race("ann", "bob"))])
        season = season_of(hall)
        self.assertIsInstance(season, Season)
        self.assertEqual((season.players, season.meetings, season.stake, season.entered),
                         (("ann", "bob", "cid"), (("ann", "bob"), ("cid", "ann"), ("ann", "bob")), 2, []))
        self.assertEqual(season_of(hall=hall, stake=7).stake, 7)
        self.assertIsNot(season_of(hall), season)
        with self.assertRaises(TypeError):
            season_of(hall, 7)

    def test_tables_that_are_no_matches(self):
        good = race("ann", "bob")
        for index, games in ((0, [SOLO]), (0, [THREE, SOLO]), (1, [good, THREE]), (2, [good, good, SOLO, THREE]), (1, [good, SOLO, good])):
            hall = Hall([], [("table" + "abcd"[at], game) for at, game in enumerate(games)])
            self.refused(BadHall, {"part": "tables", "index": index}, season_of, hall)


class EnterResultsTest(Checks):
    def setUp(self):
        self.hall = Hall([], [("one", race("ann", "bob")), ("two", race("cid", "ann")), ("tri", race("bob", "cid"))])
        self.season = season_of(self.hall, stake=3)

    def test_tables_that_have_ended_and_tables_that_go_on(self):
        play = ["one.astep", "two.bstep", "one.astep", "tri.shake", "two.astep", "one.astep"]
        kept = list(play)
        self.assertEqual(enter_results(self.season, self.hall, play[:2]), [])
        self.assertEqual(self.season.entered, [])
        self.assertEqual(enter_results(self.season, self.hall, play), [0, 2])
        self.assertEqual(self.season.entered, [(0, 3), (2, 1)])
        self.assertEqual(play, kept)
        # Meetings that are entered already stay as they are.
        self.assertEqual(enter_results(season=self.season, hall=self.hall, play=(*play, "two.bstep", "two.bstep")), [1])
        self.assertEqual(self.season.entered, [(0, 3), (2, 1), (1, 0)])
        self.assertEqual(self.season.points, {"ann": 6, "bob": 1, "cid": 2})
        self.assertEqual(enter_results(self.season, self.hall, play), [])

    def test_meetings_that_were_entered_by_hand(self):
        self.season.enter(2, 2)
        self.assertEqual(enter_results(self.season, self.hall, ["tri.shake", "one.shake"]), [0])
        self.assertEqual(self.season.entered, [(2, 2), (0, 1)])
        self.refused(Entered, {"meeting": 0}, self.season.enter, 0, 1)
        self.season.take_back()
        self.assertEqual(enter_results(self.season, self.hall, ["one.shake", "tri.bstep"]), [0])

    def test_bad_plays(self):
        for index, play in ((0, ["one.none"]), (0, ["astep"]), (1, ["one.shake", "one.astep"]), (3, ["one.astep"] * 5), (1, ["two.shake", "x", "y"]),
                            (3, ["one.astep", "one.astep", "one.astep", "one.bstep", "tri.shake"])):
            self.refused(BadPlay, {"index": index}, enter_results, self.season, self.hall, play)
        self.assertEqual(self.season.entered, [])

    def test_tables_without_moves_have_ended_at_once(self):
        hall = Hall([], [("a", read_game("players ann bob")), ("ab", race("ann", "bob")), ("b", read_game("players bob cid\ngoal cid"))])
        season = season_of(hall)
        self.assertEqual(enter_results(season, hall, []), [0, 2])
        self.assertEqual(season.entered, [(0, 1), (2, 0)])
        self.assertEqual(enter_results(season, hall, ["ab.shake"]), [1])

    def test_tables_whose_names_begin_alike(self):
        hall = Hall([], [("a", race("ann", "bob")), ("ab", race("ann", "bob"))])
        season = season_of(hall)
        self.assertEqual(enter_results(season, hall, ["a.shake"]), [0])
        self.assertEqual(season.left, [1])

    def test_a_purse_that_several_tables_use(self):
        # Who pays last leaves the other table without a move.
        text = "players {0} {1}\ncounter bank 1 1\ncounter a 1 0\nmove pay {0} do bank-1 a+1\ngoal {0} if a=1\ngoal {1} if a=0"
        hall = Hall([("bank", 1, 1)], [("one", read_game(text.format("ann", "bob"))), ("two", read_game(text.format("cid", "bob")))])
        season = season_of(hall, stake=4)
        self.assertEqual(enter_results(season, hall, []), [])
        self.assertEqual(enter_results(season, hall, ["two.pay"]), [0, 1])
        self.assertEqual(season.entered, [(0, 0), (1, 4)])

    def test_random_plays(self):
        rng = random.Random(381)
        for _ in range(40):
            season, play = season_of(self.hall, stake=rng.randint(1, 5)), []
            position = self.hall.game.start
            entered = []
            for _ in range(12):
                names = legal(self.hall.game, position)
                if names:
                    play.append(rng.choice(names))
                    values = dict(zip(self.hall.game.counters, position))
                    for counter, amount in self.hall.game.move(play[-1]).changes:
                        values[counter] += amount
                    position = tuple(values[counter] for counter in self.hall.game.counters)
                if rng.random() < 0.3:
                    ended = [at for at, name in enumerate(self.hall) if values[f"{name}.end"] or 3 in (values[f"{name}.a"], values[f"{name}.b"])]
                    self.assertEqual(enter_results(season, self.hall, play), [at for at in ended if at not in entered])
                    entered = ended
                    for meeting, points in season.entered:
                        name = list(self.hall)[meeting]
                        expected = season.stake // 2 if values[f"{name}.end"] else season.stake if values[f"{name}.a"] == 3 else 0
                        self.assertEqual(points, expected)


class MetPairsTest(unittest.TestCase):
    def test_met_pairs(self):
        season = Season(["cid", "ann", "bob", "dan"], [("bob", "ann"), ("cid", "dan"), ("ann", "bob"), ("cid", "ann"), ("dan", "bob")])
        self.assertEqual(met_pairs(season), [])
        for meeting, expected in ((4, [(2, 3)]), (0, [(1, 2), (2, 3)]), (2, [(1, 2), (2, 3)]), (1, [(0, 3), (1, 2), (2, 3)]),
                                  (3, [(0, 1), (0, 3), (1, 2), (2, 3)])):
            season.enter(meeting, 1)
            self.assertEqual(met_pairs(season=season), expected)
        met_pairs(season).clear()
        self.assertEqual(len(met_pairs(season)), 4)
        season.take_back()
        self.assertEqual(met_pairs(season), [(0, 3), (1, 2), (2, 3)])

    def test_two_digits(self):
        players = list("abcdefghijkl")
        season = Season(players, [("l", "c"), ("k", "b"), ("b", "c")])
        for meeting in range(3):
            season.enter(meeting, 0)
        self.assertEqual(met_pairs(season), [(1, 2), (1, 10), (2, 11)])


if __name__ == "__main__":
    unittest.main()
