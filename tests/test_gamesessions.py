"""Point 69: games and plays as sessions."""

import random
import unittest

from playhall.arenas import Arena
from playhall.errors import NoGoal, NoMove, NoPlayer, NotForced
from playhall.forcing import targets_of
from playhall.gamesessions import game_session, play_session
from playhall.gametext import read_game
from playhall.houseerrors import InvalidSession
from playhall.orders import stages
from playhall.sessions import Session
from tests.helpers import NIM, WIDE, Checks, all_plays, plain_ranks, random_games


def expected_session(beats, name, tools, first, second):
    needs = [(beat, tool, tools.count(tool)) for beat in range(beats or 1) for tool in sorted(set(tools))]
    return Session(name, needs, first=first, second=second)


class GameSessionTest(Checks):
    def test_by_hand(self):
        arena = Arena(NIM.started("stones", 3))
        # Bob needs two moves behind any of ann's; it is ann who begins.
        ranks = plain_ranks(arena, ["bob"], targets_of(arena, "alost"))
        found = game_session(arena, ["bob"], "alost", "nim", ["table"])
        self.assertIsInstance(found, Session)
        self.assertEqual((ranks[0], found.needs), (2, ((0, "table", 1), (1, "table", 1))))
        self.assertEqual((found.name, found.pair), ("nim", (1, 0)))
        found = game_session(arena=arena, team=("bob",), goal="alost", name="n", tools=("b", "a", "b"), first=-5, second=7)
        self.assertEqual((found.needs, found.pair), (((0, "a", 1), (0, "b", 2), (1, "a", 1), (1, "b", 2)), (-5, 7)))

    def test_the_rank_0(self):
        arena = Arena(read_game("players p\ncounter a 1 0\nmove up p do a+1\ngoal now if a=0\ngoal all\ngoal late if a=1"))
        for goal, beats in (("now", 1), ("all", 1), ("late", 1)):
            self.assertEqual(game_session(arena, ["p"], goal, "s", ["t", "t"]), expected_session(beats, "s", ["t", "t"], 1, 0))

    def test_random_games(self):
        rng = random.Random(371)
        found = {True: 0, False: 0}
        for game in random_games(372, 100, moves=5):
            arena = Arena(game)
            team = rng.sample(["ann", "bob"], rng.randint(0, 2))
            tools = [rng.choice(["a", "b", "oven"]) for _ in range(rng.randint(1, 4))]
            for goal, _ in game.goals:
                rank = plain_ranks(arena, team, targets_of(arena, goal)).get(0)
                if rank is None:
                    self.refused(NotForced, {}, game_session, arena, team, goal, "s", tools)
                else:
                    self.assertEqual(game_session(arena, team, goal, "s", tools, first=3), expected_session(rank, "s", tools, 3, 0))
                found[rank is None] += 1
        self.assertGreater(min(found.values()), 10)

    def test_the_order_of_the_errors(self):
        arena = Arena(NIM.started("stones", 3))
        self.refused(NoGoal, {"name": "none"}, game_session, arena, ["zoe"], "none", "A", ["A"])
        self.refused(NoPlayer, {"name": "zoe"}, game_session, arena, ["ann", "zoe", "eve"], "blost", "A", ["A"])
        self.refused(NotForced, {}, game_session, arena, ["ann"], "blost", "A", ["A"])
        for name, tools in (("A", ["a"]), ("a", ["A"]), ("a", ["a", "b.c"]), ("", ["a"]), ("a.b", ["a"])):
            self.refused(InvalidSession, {}, game_session, arena, ["bob"], "alost", name, tools)
        with self.assertRaises(TypeError):
            game_session(arena, ["bob"], "alost", "nim", ["table"], 1, 2)

    def test_a_long_game(self):
        game = read_game("players p\ncounter a 199 0\nmove up p do a+1\ngoal top if a=199")
        found = game_session(Arena(game), ["p"], "top", "long", ["t"])
        self.assertEqual((found.duration, len(found.needs)), (199, 199))


class PlaySessionTest(Checks):
    def test_by_hand(self):
        # xup and ydown do not meet; both meets each of them.
        for play, beats in (([], 1), (["xup"], 1), (["xup", "ydown", "nod"], 1), (["xup", "both"], 2), (["xup", "both", "ydown", "zzz"], 3)):
            kept = list(play)
            self.assertEqual(play_session(WIDE, play, "s", ["t", "u", "t"]), expected_session(beats, "s", ["t", "u", "t"], 1, 0))
            self.assertEqual(play, kept)
        found = play_session(game=WIDE, play=("xup", "both"), name="s", tools=("t",), first=0, second=-3)
        self.assertEqual((found.needs, found.pair), (((0, "t", 1), (1, "t", 1)), (0, -3)))

    def test_random_plays(self):
        for game in random_games(373, 30, moves=4):
            for play, _ in all_plays(game, game.start, 3):
                beats = len(stages(game, play))
                self.assertEqual(play_session(game, play, "s", ["t"]), expected_session(beats, "s", ["t"], 1, 0))

    def test_the_order_of_the_errors(self):
        self.refused(NoMove, {"name": "none"}, play_session, WIDE, ["xup", "none", "more"], "A", ["A"])
        self.refused(InvalidSession, {}, play_session, WIDE, ["xup"], "A", ["a"])
        self.refused(InvalidSession, {}, play_session, WIDE, [], "a", ["a", "A"])

    def test_it_does_not_ask_whether_the_play_is_legal(self):
        self.assertEqual(play_session(WIDE, ["ydown"] * 20, "s", ["t"]).duration, 20)


if __name__ == "__main__":
    unittest.main()
