"""Point 32: doubtful pairs and lag tables."""

import unittest

from playhall.arenas import Arena
from playhall.gametext import read_game
from playhall.twins import doubtful_pairs, lag_table
from tests.helpers import NIM, all_plays, doubtful, has_foul, plain_table, random_games, shown


def numbered(arena, pairs):
    return sorted((arena.number(first), arena.number(second)) for first, second in pairs)


class TwinsTest(unittest.TestCase):
    def test_random_games(self):
        seen = {"none": 0, "some": 0, "endless": 0, "great": 0}
        for game in random_games(11, 250, moves=5, top=3):
            arena = Arena(game)
            pairs = doubtful_pairs(arena)
            self.assertEqual(pairs, numbered(arena, doubtful(game)))
            table, expected = lag_table(arena), plain_table(game)
            if expected is None:
                self.assertIsNone(table)
                seen["endless"] += 1
                continue
            self.assertEqual(table, {
                (arena.number(first), arena.number(second)): most for (first, second), most in expected.items()})
            seen["some" if table else "none"] += 1
            seen["great"] += max(table.values(), default=0) > 1
        self.assertGreater(min(seen.values()), 4, seen)

    def test_pairs_of_plays(self):
        for game in random_games(12, 40):
            arena = Arena(game)
            pairs = doubtful_pairs(arena)
            plays = all_plays(game, game.start, 3)
            for play, position in plays:
                for other, place in plays:
                    if has_foul(game, play) and not has_foul(game, other) and shown(game, play) == shown(game, other):
                        self.assertIn((arena.number(position), arena.number(place)), pairs)

    def test_no_doubt(self):
        for game in (NIM, read_game("players p"), read_game("players p\nmove cheat p show s foul\nmove go p show t")):
            self.assertEqual(doubtful_pairs(Arena(game)), [])
            self.assertEqual(lag_table(Arena(game)), {})

    def test_a_foul_that_is_legal_nowhere(self):
        game = read_game("players p\ncounter a 1 0\nmove cheat p if a=1 foul\nmove go p")
        self.assertEqual(doubtful_pairs(Arena(game)), [])
        self.assertEqual(lag_table(Arena(game)), {})

    def test_one_pair_and_no_move(self):
        game = read_game("players p\ncounter a 1 0\nmove cheat p do a+1 foul")
        self.assertEqual(doubtful_pairs(Arena(game)), [(1, 0)])
        self.assertEqual(lag_table(Arena(game)), {(1, 0): 0})

    def test_moves_of_the_second_play_do_not_count(self):
        # The second play may go round for ever without a sign; the first one makes two moves at most.
        game = read_game("\n".join([
            "players p", "counter a 9 0", "move round p if a=0", "move cheat p if a=0 do a+1 foul",
            "move on p if a>=1 a<=2 do a+1"]))
        self.assertEqual(lag_table(Arena(game)), {(1, 0): 2, (2, 0): 1, (3, 0): 0})

    def test_endless(self):
        self.assertIsNone(lag_table(Arena(read_game("players p\nmove cheat p foul"))))
        self.assertIsNone(lag_table(Arena(read_game("players p\nmove cheat p show s foul\nmove go p show s"))))
        # Endless behind a later pair only.
        game = read_game("players p\ncounter a 3 0\nmove cheat p if a=0 do a+1 foul\nmove on p do a+1\nmove round p if a=3")
        self.assertIsNone(lag_table(Arena(game)))

    def test_a_circle_without_moves_of_the_first_play_through_several_pairs(self):
        game = read_game("\n".join([
            "players p", "counter a 3 0", "counter b 1 0", "move there p if a=0 do b+1", "move back p if a=0 do b-1",
            "move cheat p if a=0 b=0 do a+1 foul", "move last p if a=1 do a+1 show s", "move say p if a=0 b=1 do b-1 show s"]))
        arena = Arena(game)
        number = {position: at for at, position in enumerate(arena.positions)}
        one, two, free, other = number[(1, 0)], number[(2, 0)], number[(0, 0)], number[(0, 1)]
        self.assertEqual(lag_table(arena), {(one, free): 1, (one, other): 1, (two, free): 0, (two, other): 0})

    def test_new_and_named(self):
        arena = Arena(read_game("players p\ncounter a 1 0\nmove cheat p do a+1 foul"))
        doubtful_pairs(arena=arena).clear()
        lag_table(arena=arena).clear()
        self.assertEqual(doubtful_pairs(arena), [(1, 0)])
        self.assertEqual(lag_table(arena), {(1, 0): 0})


if __name__ == "__main__":
    unittest.main()
