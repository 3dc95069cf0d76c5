"""Point 34: marked games and least marks."""

import unittest
from itertools import combinations

from playhall.arenas import Arena
from playhall.errors import NoMove, TooLarge
from playhall.games import Game
from playhall.gametext import read_game
from playhall.marks import least_marks, marked
from playhall.moves import Move
from playhall.names import is_label
from playhall.referee import lag
from tests.helpers import NIM, Checks, plain_lag, random_games

# Signs that a program might take for new ones.
TAKEN = ["a", "b", "c", "seen", "seena", "seenb", "mark", "m", "x", "sign"]


class MarkedTest(Checks):
    def judge(self, game, names):
        """The marked game, judged by the words of point 34."""
        found = marked(game, names)
        self.assertEqual((found.players, found.counters, found.tops, found.start, found.goals),
                         (game.players, game.counters, game.tops, game.start, game.goals))
        old = [move.sign for move in game.moves]
        new = []
        for one, other in zip(game.moves, found.moves, strict=True):
            if one.name in names:
                self.assertTrue(is_label(other.sign))
                self.assertNotIn(other.sign, old)
                new.append(other.sign)
            else:
                self.assertEqual(one, other)
            self.assertEqual((one.name, one.player, one.needs, one.changes, one.foul),
                             (other.name, other.player, other.needs, other.changes, other.foul))
        self.assertEqual(len(set(new)), len(set(names)))
        return found

    def test_random_games(self):
        for game in random_games(31, 40, moves=5):
            names = [move.name for move in game.moves]
            for count in range(len(names) + 1):
                self.judge(game, names[:count])
                self.judge(game, names[count:][::-1])

    def test_no_names_and_names_that_occur_twice(self):
        self.assertEqual(marked(NIM, []), NIM)
        self.assertEqual(len({move.sign for move in self.judge(NIM, ["aone", "atwo", "aone"]).moves}), 3)
        self.judge(NIM, ("btwo", "btwo", "btwo"))

    def test_taken_labels(self):
        signed = [Move(f"m{'abcdefghijkl'[at]}", "p", [], [], sign=sign) for at, sign in enumerate(TAKEN)]
        game = Game(["p"], [], signed + [Move("quiet", "p", [], [], foul=True)])
        self.judge(game, ["quiet"])
        self.judge(game, [move.name for move in game.moves])
        # Signs that were given are taken when the marked game is marked again.
        self.judge(self.judge(game, ["quiet", "ma"]), ["mb", "quiet", "mc"])

    def test_many_moves(self):
        letters = "abcdefghijklmnopqrstuvwxyz"
        moves = [Move(one + other, "p", [], [], sign="s") for one in letters for other in letters[:6]]
        self.judge(Game(["p"], [], moves), [move.name for move in moves])

    def test_unknown_names(self):
        self.refused(NoMove, {"name": "no"}, marked, NIM, ["aone", "no", "never"])
        self.refused(NoMove, {"name": "never"}, marked, game=NIM, names=["never", "no"])

    def test_what_is_passed_stays(self):
        names = ["aone", "atwo"]
        game = read_game("players p\nmove aone p show s\nmove atwo p")
        marked(game, names)
        self.assertEqual(names, ["aone", "atwo"])
        self.assertEqual([move.sign for move in game.moves], ["s", None])


# Two fouls that look like fine moves; to mark either of a pair is enough.
DOUBLE = read_game("\n".join([
    "players p", "counter a 2 0", "move late p if a=2", "move fine p if a=0 do a+1 show s", "move cheat p if a=0 do a+2 show s foul",
    "move on p if a=1 show t", "move over p if a=2 show t"]))


class LeastMarksTest(Checks):
    def expected(self, game, most):
        for count in range(len(game.moves) + 1):
            for moves in combinations(game.moves, count):
                names = [move.name for move in moves]
                found = plain_lag(marked(game, names))
                if found is not None and found <= most:
                    return names
        self.fail("marking all fouls is enough")

    def test_random_games(self):
        lengths = {}
        for game in random_games(32, 90, moves=5, top=2):
            for most in (0, 1, 2):
                names = least_marks(game, most)
                self.assertEqual(names, self.expected(game, most))
                lengths[len(names)] = lengths.get(len(names), 0) + 1
        self.assertGreater(min(lengths[0], lengths[1], lengths[2]), 4, lengths)

    def test_by_hand(self):
        self.assertIsNone(lag(Arena(DOUBLE)))
        self.assertEqual(least_marks(DOUBLE, 0), ["fine"])
        self.assertEqual(least_marks(game=DOUBLE, most=9), ["fine"])
        self.assertEqual(least_marks(NIM, 0), [])
        self.assertEqual(least_marks(read_game("players p"), 0), [])
        self.assertEqual(least_marks(read_game("players p\nmove go p\nmove cheat p foul"), 3), ["cheat"])

    def test_the_lag_may_be_as_great_as_told(self):
        game = read_game("players p\ncounter a 4 0\nmove cheat p if a=0 do a+1 foul\nmove on p if a>=1 do a+1")
        self.assertEqual(lag(Arena(game)), 4)
        self.assertEqual(least_marks(game, 4), [])
        self.assertEqual(least_marks(game, 3), ["cheat"])
        turned = read_game("players p\ncounter a 4 0\nmove on p if a>=1 do a+1\nmove cheat p if a=0 do a+1 foul")
        self.assertEqual([least_marks(turned, most) for most in (0, 1, 3, 4)], [["cheat"], ["on"], ["on"], []])

    def test_too_large(self):
        game = read_game("players p\ncounter a 9 0\nmove go p do a+1\nmove cheat p foul")
        for most in (0, 5):
            self.refused(TooLarge, {"limit": 9}, least_marks, game, most, limit=9)
            self.assertEqual(least_marks(game, most, limit=10), ["cheat"])
        clean = read_game("players p\ncounter a 9 0\nmove go p do a+1")
        self.refused(TooLarge, {"limit": 3}, least_marks, clean, 5, limit=3)
        large = read_game("players p\ncounter a 2000 0\nmove go p do a+1")
        self.refused(TooLarge, {"limit": 2000}, least_marks, large, 0)

    def test_eight_moves(self):
        game = read_game("\n".join([
            "players p", "counter a 5 0", "move ma p do a+1", "move mb p do a-1", "move mc p do a+2 show s",
            "move md p do a-2 show s", "move me p do a+3 show t foul", "move mf p do a-3 show t",
            "move mg p if a=5 do a-5 show s foul", "move mh p if a=0 do a+5"]))
        self.assertEqual(least_marks(game, 0), self.expected(game, 0))
        self.assertEqual(least_marks(game, 1), self.expected(game, 1))


if __name__ == "__main__":
    unittest.main()
