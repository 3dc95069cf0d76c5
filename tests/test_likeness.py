"""Points 12, 13 and 14: likeness of games."""

import unittest

from playhall import arenas, likeness as module
from playhall.arenas import Arena
from playhall.errors import TooLarge
from playhall.games import Game
from playhall.gametext import read_game
from playhall.likeness import check_likeness, face, likeness, parting_play
from playhall.moves import Move
from tests.helpers import NIM, WIDE, Checks, end, random_games, step

# A counter of two games that count the same, in a different way.
UP = read_game("players p\ncounter a 3 0\nmove on p do a+1 show s\nmove wait p\ngoal full if a=3")
DOWN = read_game("players q p\ncounter b 9 4\ncounter c 7 3\nmove wait p\nmove on p if c>=1 do c-1 b+1 show s\ngoal full if b=7")
# As UP, but it goes on for one step more before it is full.
LONG = read_game("players p\ncounter a 4 0\nmove on p do a+1 show s\nmove wait p\ngoal full if a=4")


def plain_face(game, position):
    values = dict(zip(game.counters, position))
    goals = [label for label, needs in game.goals
             if all((low is None or low <= values[c]) and (high is None or values[c] <= high) for c, low, high in needs)]
    moves = [(m.name, m.player, m.sign, m.foul) for m in game.moves if step(game, position, m.name) is not None]
    return tuple(sorted(goals)), tuple(sorted(moves, key=lambda move: move[0]))


def plain_search(game, other, limit):
    """Pairs, parting play and whether the limit is passed, by the words of points 12 and 13."""
    pairs, plays = [(game.start, other.start)], [[]]
    for index, ((first, second), play) in enumerate(zip(pairs, plays)):
        if index >= limit:
            return None, None, True
        if plain_face(game, first) != plain_face(other, second):
            return None, play, False
        for move in game.moves:
            place = step(game, first, move.name)
            if place is not None and (place, step(other, second, move.name)) not in pairs:
                pairs.append((place, step(other, second, move.name)))
                plays.append([*play, move.name])
    return pairs, None, False


class FaceTest(Checks):
    def test_face(self):
        self.assertEqual(face(NIM, (5, 0)), ((), (("aone", "ann", None, False), ("atwo", "ann", None, False))))
        self.assertEqual(face(NIM, (0, 1)), (("blost",), ()))
        game = Game(["p", "q"], [("a", 1, 0)],
                    [Move("z", "p", [], [], sign="s", foul=True), Move("b.c", "q", [], []), Move("b", "p", [], [("a", 1)])],
                    [("z", []), ("y.x", [("a", 0, 0)]), ("y", [("a", None, 1)])])
        self.assertEqual(face(game=game, position=(0,)), (
            ("y", "y.x", "z"), (("b", "p", None, False), ("b.c", "q", None, False), ("z", "p", "s", True))))
        self.assertEqual(face(game, (1,)), (("y", "z"), (("b.c", "q", None, False), ("z", "p", "s", True))))

    def test_random_faces(self):
        for game in random_games(21, 20):
            for position in Arena(game):
                self.assertEqual(face(game, position), plain_face(game, position))


class LikenessTest(Checks):
    def test_alike_games(self):
        pairs = [((k,), (4 + k, 3 - k)) for k in range(4)]
        self.assertEqual(likeness(UP, DOWN), pairs)
        self.assertEqual(likeness(DOWN, UP), [(b, a) for a, b in pairs])
        self.assertIsNone(parting_play(UP, DOWN))
        self.assertEqual(likeness(UP, UP), [((k,), (k,)) for k in range(4)])

    def test_unlike_games(self):
        self.assertIsNone(likeness(UP, LONG))
        self.assertEqual(parting_play(UP, LONG), ["on"] * 3)
        self.assertEqual(parting_play(game=LONG, other=DOWN, limit=4), ["on"] * 3)
        self.assertIsNone(likeness(game=LONG, other=DOWN, limit=4))
        self.assertIsNone(likeness(UP, NIM))
        self.assertEqual(parting_play(UP, NIM), [])

    def test_each_part_of_the_face_counts(self):
        def game(players="p", sign="show s", foul="", goal="g", name="m"):
            return read_game(f"players p q\ncounter a 1 0\nmove {name} {players} do a+1 {sign} {foul}".rstrip()
                             .replace("  ", " ") + f"\ngoal {goal} if a=1")

        self.assertIsNone(parting_play(game(), game()))
        self.assertEqual(parting_play(game(), game(players="q")), [])
        self.assertEqual(parting_play(game(), game(sign="show t")), [])
        self.assertEqual(parting_play(game(), game(sign="")), [])
        self.assertEqual(parting_play(game(), game(foul="foul")), [])
        self.assertEqual(parting_play(game(), game(name="n")), [])
        self.assertEqual(parting_play(game(), game(goal="h")), ["m"])

    def test_the_first_parting_play_by_the_moves_of_the_first_game(self):
        one = read_game("players p\ncounter a 1 0\ncounter b 1 0\nmove z p do a+1\nmove c p do b+1\ngoal g if a=1 b=1")
        two = read_game("players p\ncounter a 1 0\ncounter b 1 0\nmove c p do b+1\nmove z p do a+1")
        self.assertEqual(parting_play(one, two), ["z", "c"])
        self.assertEqual(parting_play(two, one), ["c", "z"])

    def test_limits_of_alike_games(self):
        self.assertEqual(module.LIMIT, arenas.LIMIT)
        self.assertEqual(len(likeness(UP, DOWN, limit=4)), 4)
        self.assertIsNone(parting_play(UP, DOWN, limit=4))
        for limit in (1, 2, 3):
            self.refused(TooLarge, {"limit": limit}, likeness, UP, DOWN, limit=limit)
            self.refused(TooLarge, {"limit": limit}, parting_play, UP, DOWN, limit=limit)

    def test_limits_of_unlike_games(self):
        # The fourth pair has different faces; it is looked at if the limit is 4.
        self.assertEqual(parting_play(UP, LONG, limit=4), ["on"] * 3)
        self.assertIsNone(likeness(UP, LONG, limit=4))
        self.refused(TooLarge, {"limit": 3}, parting_play, UP, LONG, limit=3)
        self.refused(TooLarge, {"limit": 3}, likeness, UP, LONG, limit=3)
        self.assertEqual(parting_play(UP, NIM, limit=1), [])

    def test_the_limit_of_the_interface_is_2000(self):
        for size, call in ((1999, likeness), (1999, parting_play)):
            line = read_game(f"players p\ncounter a {size} 0\nmove m p do a+1")
            call(line, line)
            longer = read_game(f"players p\ncounter a {size + 1} 0\nmove m p do a+1")
            self.refused(TooLarge, {"limit": 2000}, call, longer, longer)
        with self.assertRaises(TypeError):
            likeness(UP, DOWN, 5)
        with self.assertRaises(TypeError):
            parting_play(UP, DOWN, 5)

    def test_great_limits(self):
        line = read_game(f"players p\ncounter a {10 ** 40} 0\nmove m p do a+1")
        self.refused(TooLarge, {"limit": 100000}, likeness, line, line, limit=100000)
        even = read_game("players p\ncounter a 199 0\nmove m p do a+1\nmove r p if a=199 do a-199")
        odd = read_game("players p\ncounter a 198 0\nmove m p do a+1\nmove r p if a=198 do a-198")
        self.assertEqual(parting_play(even, odd, limit=100000), ["m"] * 198)

    def test_small_games(self):
        nothing = Game(["p"], [], [])
        self.assertEqual(likeness(nothing, Game(["q"], [("a", 2, 1)], []), limit=1), [((), (1,))])
        self.assertEqual(parting_play(nothing, Game(["p"], [], [], [("g", [])])), [])
        still = Game(["p"], [], [Move("m", "p", [], [])])
        self.assertEqual(likeness(still, WIDE), None)

    def test_random_games(self):
        games = random_games(22, 12, counters=1, moves=2, goals=1, players=("p",))
        for game in games:
            for other in games:
                for limit in (1, 2, 3, 100):
                    pairs, play, large = plain_search(game, other, limit)
                    if large:
                        self.refused(TooLarge, {"limit": limit}, likeness, game, other, limit=limit)
                        self.refused(TooLarge, {"limit": limit}, parting_play, game, other, limit=limit)
                    else:
                        self.assertEqual(likeness(game, other, limit=limit), pairs)
                        self.assertEqual(parting_play(game, other, limit=limit), play)
                        if play is not None:
                            self.assertNotEqual(plain_face(game, end(game, game.start, play)),
                                                plain_face(other, end(other, other.start, play)))


class CheckTest(Checks):
    def test_a_likeness_is_one(self):
        pairs = likeness(UP, DOWN)
        self.assertIs(check_likeness(UP, DOWN, pairs), True)
        self.assertIs(check_likeness(DOWN, UP, [(b, a) for a, b in pairs]), True)
        self.assertIs(check_likeness(game=UP, other=DOWN, pairs=tuple(pairs[::-1] + pairs)), True)
        self.assertEqual(pairs, likeness(UP, DOWN))

    def test_more_pairs_than_plays_reach(self):
        still = Game(["p"], [("a", 3, 1)], [Move("m", "p", [], [])])
        self.assertIs(check_likeness(still, still, [((1,), (1,)), ((3,), (0,))]), True)
        self.assertIs(check_likeness(still, still, [((1,), (1,)), ((3,), (4,))]), False)
        self.assertIs(check_likeness(still, still, [((1,), (1,)), ((4,), (3,))]), False)
        self.assertIs(check_likeness(still, still, [((1,), (1,)), ((-1,), (3,))]), False)
        self.assertIs(check_likeness(still, still, [((1,), (1,)), ((3,), (-1,))]), False)

    def test_one_thing_is_missing(self):
        pairs = likeness(UP, DOWN)
        self.assertIs(check_likeness(UP, DOWN, []), False)
        for index in range(len(pairs)):
            self.assertIs(check_likeness(UP, DOWN, pairs[:index] + pairs[index + 1:]), False)

    def test_wrong_numbers_of_values(self):
        pairs = likeness(UP, DOWN)
        for more in [((1, 0), (5, 2)), ((), (5, 2)), ((1,), (5,)), ((1,), (5, 2, 0)), ((1,), ())]:
            self.assertIs(check_likeness(UP, DOWN, [*pairs, more]), False)
            self.assertIs(check_likeness(UP, DOWN, [more]), False)

    def test_values_above_the_tops(self):
        free = Game(["p"], [("a", 3, 1)], [])
        self.assertIs(check_likeness(free, free, [((1,), (1,)), ((3,), (3,))]), True)
        self.assertIs(check_likeness(free, free, [((1,), (1,)), ((3,), (4,))]), False)

    def test_one_of_several_values_is_above_its_top(self):
        free = Game(["p"], [("a", 3, 1), ("b", 2, 0)], [])
        starts = ((1, 0), (1, 0))
        self.assertIs(check_likeness(free, free, [starts, ((3, 2), (0, 0))]), True)
        for wrong in [(4, 2), (3, 3), (-1, 0), (0, -1)]:
            self.assertIs(check_likeness(free, free, [starts, ((0, 0), wrong)]), False)
            self.assertIs(check_likeness(free, free, [starts, (wrong, (0, 0))]), False)

    def test_different_faces(self):
        pairs = likeness(UP, DOWN)
        self.assertIs(check_likeness(UP, DOWN, [*pairs, ((3,), (6, 1))]), False)
        self.assertIs(check_likeness(UP, LONG, [((k,), (k,)) for k in range(4)]), False)
        self.assertIs(check_likeness(UP, LONG, [((k,), (k,)) for k in range(3)]), False)

    def test_a_pair_behind_a_move_is_missing(self):
        one = read_game("players p\ncounter a 1 0\nmove m p do a+1\nmove n p if a=1 do a-1")
        self.assertIs(check_likeness(one, one, [((0,), (0,)), ((1,), (1,))]), True)
        self.assertIs(check_likeness(one, one, [((0,), (0,))]), False)
        self.assertIs(check_likeness(one, one, [((1,), (1,)), ((0,), (0,)), ((0,), (1,))]), False)

    def test_pairs_that_are_not_the_starts(self):
        still = Game(["p"], [("a", 3, 1)], [Move("m", "p", [], [])])
        self.assertIs(check_likeness(still, still, [((1,), (2,)), ((2,), (1,))]), False)


if __name__ == "__main__":
    unittest.main()
