"""Point 15: classes and least forms."""

import random
import unittest

from playhall.arenas import Arena
from playhall.classes import classes, least_form, parting_between
from playhall.games import Game
from playhall.gametext import read_game
from playhall.likeness import face, likeness, parting_play
from tests.helpers import NIM, Checks, end, random_games
from tests.test_likeness import DOWN, LONG, UP

ROUND = read_game("players p\ncounter a 3 0\nmove z p do a+1\nmove c p if a=3 do a-3\nmove b p if a=1\n"
                  "goal odd if a=1\ngoal three if a=3")


def started_at(game, position):
    for label, value in zip(game.counters, position):
        game = game.started(label, value)
    return game


class ClassesTest(Checks):
    def test_classes_in_the_order_of_their_first_positions(self):
        game = read_game("players p\ncounter a 2 0\ncounter b 2 0\nmove m p if b=0 a=0 do a+1 b+1\n"
                         "move n p if b=0 a=0 do a+1\nmove k p if a=1 do a+1")
        arena = Arena(game)
        self.assertEqual(arena.positions, [(0, 0), (1, 1), (1, 0), (2, 1), (2, 0)])
        self.assertEqual(classes(arena=arena), (0, 1, 1, 2, 2))

    def test_positions_are_parted_by_what_is_far_behind_them(self):
        line = "players p\ncounter a 9 0\nmove m p do a+1\nmove r p if a=9 do a-9"
        self.assertEqual(classes(Arena(read_game(line))), tuple(range(10)))
        self.assertEqual(classes(Arena(read_game("players p\ncounter a 9 0\nmove m p if a<=8 do a+1\n"
                                                 "move n p if a=9 do a-9\nmove o p"))), tuple(range(10)))

    def test_positions_that_cannot_be_told_apart(self):
        game = "players p\ncounter a 2 0\nmove x p if a=0 do a+1\nmove y p if a=0 do a+2\nmove z p if a>=1"
        self.assertEqual(classes(Arena(read_game(game))), (0, 1, 1))
        self.assertEqual(classes(Arena(read_game(game + "\ngoal g if a>=1"))), (0, 1, 1))
        self.assertEqual(classes(Arena(read_game(game + "\ngoal g if a=2"))), (0, 1, 2))

    def test_classes_are_those_of_point_12(self):
        for game in random_games(31, 25):
            arena = Arena(game)
            numbers = classes(arena)
            self.assertIsInstance(numbers, tuple)
            games = [started_at(game, position) for position in arena]
            for one, first in enumerate(games):
                for other, second in enumerate(games):
                    self.assertEqual(numbers[one] == numbers[other], likeness(first, second) is not None)
            first_places = [numbers.index(number) for number in range(max(numbers) + 1)]
            self.assertEqual(first_places, sorted(first_places))

    def test_parting_between(self):
        for game in random_games(32, 15):
            arena = Arena(game)
            numbers = classes(arena)
            for one, first in enumerate(arena.positions):
                for other, second in enumerate(arena.positions):
                    play = parting_between(arena, one, other)
                    self.assertEqual(play, parting_play(started_at(game, first), started_at(game, second)))
                    self.assertEqual(play is None, numbers[one] == numbers[other])
                    if play is not None:
                        self.assertNotEqual(face(game, end(game, first, play)), face(game, end(game, second, play)))

    def test_parting_between_in_both_orders(self):
        arena = Arena(NIM)
        one, other = arena.number((4, 1)), arena.number((3, 1))
        self.assertEqual(parting_between(arena, one, other), ["btwo"])
        self.assertEqual(parting_between(arena=arena, number=other, other=one), ["btwo"])
        self.assertEqual(parting_between(arena, 0, arena.number((3, 0))), ["atwo"])
        self.assertEqual(parting_between(arena, arena.number((3, 0)), 0), ["atwo"])
        self.assertEqual(parting_between(arena, 0, one), [])
        self.assertIsNone(parting_between(arena, one, one))

    def test_parting_between_goes_over_more_than_2000_pairs(self):
        game = read_game("players p\ncounter a 52 0\ncounter b 46 0\nmove m p do a+1\nmove n p if a=52 do a-52\n"
                         "move o p do b+1\nmove q p if b=46 do b-46")
        arena = Arena(game, limit=3000)
        self.assertEqual(arena.size, 53 * 47)
        self.assertIsNone(parting_between(arena, 7, 7))


class LeastFormTest(Checks):
    def test_least_form(self):
        move = {name: (name, "p", None, False) for name in "zcb"}
        self.assertEqual(least_form(Arena(ROUND)), (
            (((), (move["z"],)), (("z", 1),)),
            ((("odd",), (move["b"], move["z"])), (("b", 1), ("z", 2))),
            (((), (move["z"],)), (("z", 3),)),
            ((("three",), (move["c"],)), (("c", 0),)),
        ))

    def test_rows_are_numbered_by_the_names_of_the_moves(self):
        game = read_game("players p\ncounter a 4 0\nmove z p if a=0 do a+1\nmove c p if a=0 do a+2\nmove y p if a=1 do a+3\n"
                         "move x p if a=2 do a+1\ngoal g if a=4")
        form = least_form(arena=Arena(game))
        self.assertEqual([ways for _, ways in form], [(("c", 1), ("z", 2)), (("x", 3),), (("y", 4),), (), ()])

    def test_games_are_alike_if_and_only_if_their_least_forms_are_equal(self):
        self.assertEqual(least_form(Arena(UP)), least_form(Arena(DOWN)))
        self.assertNotEqual(least_form(Arena(UP)), least_form(Arena(LONG)))
        games = random_games(33, 14, counters=1, moves=2, goals=1, players=("p",))
        games = games + [UP, DOWN, LONG, NIM]
        for game in games:
            for other in games:
                self.assertEqual(likeness(game, other) is not None, least_form(Arena(game)) == least_form(Arena(other)))

    def test_moves_and_counters_in_another_order(self):
        rng = random.Random(34)
        for game in random_games(35, 25):
            moves, goals = list(game.moves), list(game.goals)
            counters = list(zip(game.counters, game.tops, game.start))
            for part in (moves, goals, counters):
                rng.shuffle(part)
            other = Game(game.players, counters, moves, goals)
            self.assertEqual(least_form(Arena(game)), least_form(Arena(other)))

    def test_a_game_without_anything(self):
        arena = Arena(Game(["p"], [], []))
        self.assertEqual(classes(arena), (0,))
        self.assertEqual(least_form(arena), ((((), ()), ()),))
        self.assertIsNone(parting_between(arena, 0, 0))


if __name__ == "__main__":
    unittest.main()
