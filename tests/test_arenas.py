"""Point 11: arenas."""

import unittest

from playhall import arenas
from playhall.arenas import LIMIT, Arena
from playhall.errors import NotReached, TooLarge
from playhall.games import Game
from playhall.gametext import read_game
from playhall.moves import Move
from tests.helpers import NIM, Checks, all_plays, random_games, step

GRID = read_game("players p\ncounter a 2 0\ncounter b 2 0\nmove back p do a-1\nmove up p do b+1\nmove on p do a+1")


def plain_arena(game):
    """Positions and their first plays by the words of point 11."""
    positions, plays = [game.start], [[]]
    for position, play in zip(positions, plays):
        for move in game.moves:
            place = step(game, position, move.name)
            if place is not None and place not in positions:
                positions.append(place)
                plays.append([*play, move.name])
    return positions, plays


class ArenaTest(Checks):
    def test_order_of_the_positions(self):
        arena = Arena(GRID)
        self.assertIs(arena.game, GRID)
        self.assertEqual(arena.positions, [(0, 0), (0, 1), (1, 0), (0, 2), (1, 1), (2, 0), (1, 2), (2, 1), (2, 2)])
        self.assertEqual(arena.size, 9)
        self.assertEqual(arena.ways[0], (("up", 1), ("on", 2)))
        self.assertEqual(arena.ways[4], (("back", 1), ("up", 6), ("on", 7)))
        self.assertEqual(arena.ways[8], (("back", 6),))

    def test_random_arenas(self):
        for game in random_games(11, 40):
            positions, plays = plain_arena(game)
            arena = Arena(game)
            self.assertEqual(arena.positions, positions)
            self.assertEqual(list(arena), positions)
            self.assertEqual(arena.size, len(positions))
            self.assertEqual([arena.play_to(number) for number in range(arena.size)], plays)
            for number, position in enumerate(positions):
                self.assertEqual(arena.number(position), number)
                behind = [(move.name, step(game, position, move.name)) for move in game.moves]
                self.assertEqual(arena.ways[number],
                                 tuple((name, positions.index(place)) for name, place in behind if place is not None))

    def test_first_plays_are_shortest_and_first(self):
        for game in random_games(12, 10):
            arena = Arena(game)
            first = {}
            for play, position in all_plays(game, game.start, 4):
                first.setdefault(position, list(play))
            for position, play in first.items():
                self.assertEqual(arena.play_to(arena.number(position)), play)

    def test_first_play_by_the_order_of_the_moves(self):
        game = read_game("players p\ncounter a 2 0\ncounter b 2 0\nmove z p do a+1\nmove c p do b+1")
        arena = Arena(game=game, limit=100)
        self.assertEqual(arena.play_to(arena.number((1, 1))), ["z", "c"])
        self.assertEqual(arena.play_to(number=0), [])
        self.assertEqual(arena.play_to(arena.number((2, 1))), ["z", "z", "c"])

    def test_membership(self):
        arena = Arena(NIM)
        self.assertIs((5, 0) in arena, True)
        self.assertIs((5, 1) in arena, False)
        self.assertIs((5,) in arena, False)
        self.assertIs((5, 0, 0) in arena, False)
        self.assertEqual(arena.number(position=(4, 1)), 1)
        self.refused(NotReached, {"missing": (5, 1)}, arena.number, (5, 1))
        self.assertEqual([position for position in arena], arena.positions)

    def test_limit(self):
        self.assertEqual(LIMIT, 2000)
        self.assertEqual(Arena(GRID, limit=9).size, 9)
        self.refused(TooLarge, {"limit": 8}, Arena, GRID, limit=8)
        self.refused(TooLarge, {"limit": 1}, Arena, GRID, limit=1)
        line = read_game("players p\ncounter a 1999 0\nmove m p do a+1")
        self.assertEqual(Arena(line).size, 2000)
        longer = read_game("players p\ncounter a 2000 0\nmove m p do a+1")
        self.refused(TooLarge, {"limit": 2000}, Arena, longer)
        self.assertEqual(Arena(longer, limit=2001).play_to(2000), ["m"] * 2000)
        with self.assertRaises(TypeError):
            Arena(GRID, 9)

    def test_great_limits(self):
        side = read_game("players p\ncounter a 399 0\ncounter b 249 0\nmove m p do a+1\nmove n p do b+1")
        self.assertEqual(Arena(side, limit=100000).size, 100000)
        self.refused(TooLarge, {"limit": 99999}, Arena, side, limit=99999)
        endless = read_game(f"players p\ncounter a {10 ** 40} 0\nmove m p do a+1")
        self.refused(TooLarge, {"limit": 100000}, Arena, endless, limit=100000)

    def test_small_games(self):
        alone = Arena(Game(["p"], [], []), limit=1)
        self.assertEqual((alone.positions, alone.ways, alone.size), ([()], [()], 1))
        self.assertIs(() in alone, True)
        still = Arena(Game(["p"], [], [Move("m", "p", [], [])], [("g", [])]), limit=1)
        self.assertEqual((still.positions, still.ways), ([()], [(("m", 0),)]))
        stuck = Arena(Game(["p"], [("a", 3, 2)], []), limit=1)
        self.assertEqual((stuck.positions, stuck.ways), ([(2,)], [()]))

    def test_what_is_returned_is_new(self):
        arena = Arena(NIM)
        kept = arena.positions, arena.ways, arena.play_to(3)
        for got in (arena.positions, arena.ways, arena.play_to(3)):
            got.clear()
        self.assertEqual((arena.positions, arena.ways, arena.play_to(3)), kept)

    def test_arenas_are_equal_only_to_themselves(self):
        arena = Arena(NIM)
        self.assertIs(arena == arena, True)
        self.assertIs(arena == Arena(NIM), False)

    def test_size_positions_and_ways_are_properties(self):
        for name in ("size", "positions", "ways"):
            self.assertIsInstance(vars(arenas.Arena)[name], property)


if __name__ == "__main__":
    unittest.main()
