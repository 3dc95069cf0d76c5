"""Point 25: gifts."""

import unittest

from playhall.arenas import Arena
from playhall.errors import BadPlay, NoPlayer
from playhall.gametext import read_game
from playhall.gifts import first_gift, gifts
from playhall.positions import walk
from tests.helpers import NIM, Checks, all_plays, random_games
from tests.test_forcing import TEAMS, plain_ranks

# a = 3 is the target; ann may fall back into the trap, and bob may help her out of it.
GAME = read_game("players ann bob\ncounter a 3 0\nmove up ann if a>=1 do a+1\nmove down ann if a=2 do a-2\n"
                 "move help bob if a=0 do a+2\nmove stay bob if a=0\nmove home bob if a=3 do a-3")


class GiftsTest(Checks):
    def test_gifts_of_both_kinds(self):
        arena = Arena(GAME)
        targets = [arena.number((3,))]
        play = ["stay", "help", "down", "help", "up", "home", "help", "down"]
        self.assertEqual(list(gifts(arena, play, ["ann"], targets)), [
            (1, "bob", True), (2, "ann", False), (3, "bob", True), (6, "bob", True), (7, "ann", False)])
        self.assertEqual(first_gift(arena, play, ["ann"], targets), 2)
        self.assertEqual(first_gift(arena=arena, play=tuple(play[3:]), team=("ann",), targets=tuple(targets)), 4)
        self.assertIsNone(first_gift(arena, play[:2], ["ann"], targets))
        self.assertEqual(list(gifts(arena=arena, play=[], team=["ann"], targets=targets)), [])
        self.assertIsNone(first_gift(arena, [], ["ann"], targets))

    def test_a_target_gives_nothing_away(self):
        arena = Arena(GAME)
        targets = [arena.number((3,))]
        self.assertEqual(list(gifts(arena, ["help", "up", "home"], ["ann"], targets)), [(0, "bob", True)])
        self.assertIsNone(first_gift(arena, ["help", "up", "home"], ["ann"], targets))

    def test_errors_come_before_anything_else_and_while_it_is_iterated(self):
        arena = Arena(GAME)
        for bad in ("down", "x"):
            made = gifts(arena, ["help", "up", bad, "y"], ["zoe"], [3])
            self.refused(BadPlay, {"index": 2}, next, made)
            self.refused(BadPlay, {"index": 2}, first_gift, arena, ["help", "up", bad, "y"], ["zoe"], [3])
        made = gifts(arena, ["help", "up"], ["ann", "zoe", "yan"], [3])
        self.refused(NoPlayer, {"name": "zoe"}, next, made)
        self.refused(NoPlayer, {"name": "zoe"}, first_gift, arena, ["help", "up"], ["ann", "zoe", "yan"], [3])
        self.refused(NoPlayer, {"name": "zoe"}, list, gifts(arena, [], ["zoe"], []))

    def test_a_late_refusal_yields_nothing(self):
        arena = Arena(GAME)
        target = arena.number((3,))
        self.assertEqual(next(gifts(arena, ["help", "up"], ["ann"], [target])), (0, "bob", True))
        self.refused(BadPlay, {"index": 2}, next, gifts(arena, ["help", "up", "up"], ["ann"], [target]))
        self.refused(BadPlay, {"index": 3}, first_gift, arena, ["help", "down", "stay", "up"], ["ann"], [target])

    def test_random_plays(self):
        for game in [NIM, *random_games(81, 12)]:
            arena = Arena(game)
            for team in TEAMS[:4]:
                targets = [number for number in range(arena.size) if number % 3 == 2]
                ranks = plain_ranks(arena, team, targets)
                for play, _ in all_plays(game, game.start, 4)[-40:]:
                    numbers = [arena.number(place) for place in walk(game, play)]
                    expected = []
                    for index, name in enumerate(play):
                        old, new = numbers[index], numbers[index + 1]
                        if old not in ranks and new in ranks:
                            expected.append((index, game.move(name).player, True))
                        if old in ranks and old not in targets and new not in ranks:
                            expected.append((index, game.move(name).player, False))
                            self.assertIn(game.move(name).player, team)
                    self.assertEqual(list(gifts(arena, play, team, targets)), expected)
                    own = [index for index, _, forced in expected if not forced]
                    self.assertEqual(first_gift(arena, play, team, targets), own[0] if own else None)


if __name__ == "__main__":
    unittest.main()
