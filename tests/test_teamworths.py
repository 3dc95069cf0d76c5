"""Point 44: the worths that teams force."""

import random
import unittest

from playhall.arenas import Arena
from playhall.errors import NoCounter, NoPlayer
from playhall.gametext import read_game
from playhall.teamworths import forced_worth, forced_worths
from tests.helpers import Checks, plain_ranks, random_games

# Ann shares what lies in the middle, and bob may take from what she has.
GAME = read_game("\n".join([
    "players ann bob cid", "counter a 3 0", "counter b 3 0", "counter mid 3 3", "move taketwo ann if mid>=2 a=0 do mid-2 a+2",
    "move takeone ann if mid=3 do mid-1 a+1", "move steal bob if a>=1 b=0 do a-1 b+1", "move rest cid if mid=1 do mid-1 b+1"]))


def plain_worth(arena, team, prizes):
    game = arena.game
    sums = [sum(position[game.counters.index(counter)] for player, counter in zip(game.players, prizes) if player in team)
            for position in arena.positions]
    return max(worth for worth in sums
               if 0 in plain_ranks(arena, team, [at for at, other in enumerate(sums) if other >= worth]))


class TeamWorthsTest(Checks):
    def test_by_hand(self):
        arena = Arena(GAME)
        prizes = ["a", "b", "mid"]
        # What is reached counts, also if it is stolen later.
        self.assertEqual(forced_worth(arena, ["ann"], prizes), 2)
        self.assertEqual(forced_worth(arena, ["bob"], prizes), 1)
        self.assertEqual(forced_worth(arena, ["cid"], prizes), 3)
        self.assertEqual(forced_worth(arena, ["ann", "bob", "cid"], prizes), 3)
        self.assertEqual(forced_worths(arena, prizes), [plain_worth(arena, team, prizes) for team in (
            [], ["ann"], ["bob"], ["ann", "bob"], ["cid"], ["ann", "cid"], ["bob", "cid"], ["ann", "bob", "cid"])])

    def test_random_games(self):
        rng = random.Random(111)
        players = ("ann", "bob", "cid")
        more = 0
        for game in random_games(112, 80, counters=3, top=3, moves=6, players=players):
            arena = Arena(game)
            prizes = [rng.choice(game.counters) for _ in players]
            worths = forced_worths(arena, prizes)
            self.assertEqual(len(worths), 8)
            for number, worth in enumerate(worths):
                team = [player for at, player in enumerate(players) if number >> at & 1]
                self.assertEqual(worth, plain_worth(arena, team, prizes))
                self.assertEqual(forced_worth(arena, team[::-1], prizes), worth)
                at_first = sum(game.start[game.counters.index(prizes[players.index(player)])] for player in team)
                more += worth > at_first
        self.assertGreater(more, 60)

    def test_teams(self):
        arena = Arena(GAME)
        self.assertEqual(forced_worth(arena, [], ["a", "b", "mid"]), 0)
        self.assertEqual(forced_worth(arena, ["cid", "cid"], ["a", "b", "mid"]), 3)
        self.assertEqual(forced_worth(arena=arena, team=("cid", "ann", "cid"), prizes=("a", "b", "mid")), 3)
        # One counter that is the prize of several players counts for each of them.
        self.assertEqual(forced_worth(arena, ["ann", "bob", "cid"], ["mid", "mid", "mid"]), 9)
        self.assertEqual(forced_worths(arena=arena, prizes=("mid", "mid", "mid")), [0, 3, 3, 6, 3, 6, 6, 9])

    def test_games_without_moves(self):
        arena = Arena(read_game("players ann bob\ncounter a 9 4\ncounter b 9 0"))
        self.assertEqual(forced_worths(arena, ["a", "b"]), [0, 4, 0, 4])
        self.assertEqual(forced_worths(arena, ["a", "a"]), [0, 4, 4, 8])

    def test_great_values(self):
        big = 10 ** 40 - 1
        arena = Arena(read_game(f"players ann bob\ncounter a {big} {big - 1}\nmove up ann do a+1\nmove down bob if a={big} do a-1"))
        self.assertEqual(forced_worths(arena, ["a", "a"]), [0, big, big, 2 * big])

    def test_six_players(self):
        players = ["ann", "bob", "cid", "dan", "eve", "fay"]
        arena = Arena(read_game("players " + " ".join(players) + "\ncounter a 9 0\nmove up fay do a+1"))
        worths = forced_worths(arena, ["a"] * 6)
        self.assertEqual(len(worths), 64)
        self.assertEqual([worths[number] for number in (0, 1, 31, 32, 33, 63)], [0, 9, 45, 9, 18, 54])

    def test_refused(self):
        arena = Arena(GAME)
        self.refused(NoPlayer, {"name": "dan"}, forced_worth, arena, ["ann", "dan", "eve"], ["x", "b", "mid"])
        self.refused(NoCounter, {"name": "x"}, forced_worth, arena, ["ann"], ["a", "x", "y"])
        self.refused(NoCounter, {"name": "y"}, forced_worth, arena, [], ["y", "x", "mid"])
        self.refused(NoCounter, {"name": "ann"}, forced_worths, arena, ["a", "b", "ann"])


if __name__ == "__main__":
    unittest.main()
