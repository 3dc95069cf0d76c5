"""Point 8 and the interface of positions.py."""

import unittest

from playhall.errors import BadPlay, Blocked, NoGoal, NoMove
from playhall.games import Game
from playhall.gametext import read_game
from playhall.moves import Move
from playhall.positions import after, before, end_of, goals_at, holds, legal, walk
from tests.helpers import NIM, WIDE, Checks, all_plays, end, random_games, step

BIG = 10 ** 40
DEEP = read_game(f"players p\ncounter b {BIG} 0\ncounter a {BIG} {BIG}\nmove go p do a-1 b+1\nmove stay p if a>=5\n"
                 "move free p\nmove two p do b+2")


class PositionsTest(Checks):
    def test_goals(self):
        game = read_game("players p\ncounter a 9 5\ncounter b 9 5\ngoal z\ngoal low if a>=4\ngoal high if b<=4\n"
                         "goal both if a>=4 b<=4 a<=6 b=3\ngoal never if a>=5 a<=4")
        self.assertEqual(goals_at(game, (5, 5)), ["z", "low"])
        self.assertEqual(goals_at(game, (4, 4)), ["z", "low", "high"])
        self.assertEqual(goals_at(game, (3, 4)), ["z", "high"])
        self.assertEqual(goals_at(game, (6, 3)), ["z", "low", "high", "both"])
        self.assertEqual(goals_at(game, (7, 3)), ["z", "low", "high"])
        self.assertEqual(goals_at(game=game, position=(3, 5)), ["z"])
        self.assertIs(holds(game, "low", (4, 0)), True)
        self.assertIs(holds(game, "low", (3, 0)), False)
        self.assertIs(holds(game=game, goal="high", position=(0, 4)), True)
        self.assertIs(holds(game, "high", (0, 5)), False)
        self.assertIs(holds(game, "z", (0, 0)), True)
        self.assertIs(holds(game, "never", (5, 5)), False)
        self.refused(NoGoal, {"name": "a"}, holds, game, "a", (5, 5))
        self.assertEqual(goals_at(WIDE, (0, 0, 0)), [])

    def test_legal(self):
        self.assertEqual(legal(NIM, (5, 0)), ["aone", "atwo"])
        self.assertEqual(legal(NIM, (1, 0)), ["aone"])
        self.assertEqual(legal(NIM, (1, 1)), ["bone"])
        self.assertEqual(legal(NIM, (0, 1)), [])
        self.assertEqual(legal(WIDE, (9, 0, 0)), ["both", "zzz", "nod", "wave"])
        self.assertEqual(legal(game=WIDE, position=(0, 9, 0)), ["xup", "ydown", "zzz", "nod", "wave"])

    def test_legal_and_after_by_the_words_of_point_8(self):
        for game in random_games(2, 20):
            for position in [(a, b) for a in range(game.tops[0] + 1) for b in range(game.tops[1] + 1)]:
                expected = {move.name: step(game, position, move.name) for move in game.moves}
                self.assertEqual(legal(game, position), [name for name in expected if expected[name] is not None])
                for name, place in expected.items():
                    if place is None:
                        with self.assertRaises(Blocked):
                            after(game, position, name)
                    else:
                        self.assertEqual(after(game, position, name), place)
                        self.assertEqual(before(game, place, name), position)

    def test_after(self):
        self.assertEqual(after(NIM, (5, 0), "atwo"), (3, 1))
        self.assertEqual(after(game=NIM, position=(5, 0), name="aone", times=1), (4, 1))
        self.assertEqual(after(NIM, (5, 0), "bone", times=0), (5, 0))
        self.assertIsInstance(after(NIM, (5, 0), "bone", times=0), tuple)
        self.assertEqual(after(DEEP, (0, BIG), "go", times=BIG), (BIG, 0))
        self.assertEqual(after(DEEP, (0, BIG), "go", times=BIG - 1), (BIG - 1, 1))
        self.assertEqual(after(DEEP, (3, 4), "free", times=BIG), (3, 4))
        self.assertEqual(after(DEEP, (3, 5), "stay", times=BIG), (3, 5))
        self.assertEqual(after(DEEP, (0, 0), "two", times=BIG // 2), (BIG, 0))

    def test_after_names_the_first_row_that_blocks(self):
        self.refused(Blocked, {"counter": "turn"}, after, NIM, (5, 0), "bone")
        self.refused(Blocked, {"counter": "stones"}, after, NIM, (0, 0), "bone")
        self.refused(Blocked, {"counter": "turn"}, after, NIM, (5, 0), "aone", times=2)
        self.refused(Blocked, {"counter": "a"}, after, DEEP, (1, BIG - 1), "go", times=BIG)
        self.refused(Blocked, {"counter": "b"}, after, DEEP, (1, BIG), "go", times=BIG)
        self.refused(Blocked, {"counter": "b"}, after, DEEP, (0, 0), "two", times=BIG // 2 + 1)
        self.refused(Blocked, {"counter": "a"}, after, DEEP, (0, 4), "stay", times=BIG)

    def test_before(self):
        self.assertEqual(before(NIM, (3, 1), "atwo"), (5, 0))
        self.assertEqual(before(game=NIM, position=(3, 1), name="bone", times=0), (3, 1))
        self.assertEqual(before(DEEP, (BIG, 0), "go", times=BIG), (0, BIG))
        self.assertEqual(before(DEEP, (7, 5), "stay", times=BIG), (7, 5))
        self.refused(Blocked, {"counter": "stones"}, before, NIM, (4, 1), "atwo")
        self.refused(Blocked, {"counter": "turn"}, before, NIM, (3, 0), "atwo")
        self.refused(Blocked, {"counter": "a"}, before, DEEP, (BIG, 1), "go", times=BIG)
        self.refused(Blocked, {"counter": "b"}, before, DEEP, (BIG - 1, 0), "go", times=BIG)
        self.refused(Blocked, {"counter": "a"}, before, DEEP, (0, 4), "stay", times=1)

    def test_a_move_that_does_not_exist_comes_first(self):
        for call in (after, before):
            self.refused(NoMove, {"name": "x"}, call, NIM, (5, 0), "x")
            self.refused(NoMove, {"name": "stones"}, call, NIM, (5, 0), "stones", times=0)
            self.refused(NoMove, {"name": "x"}, call, NIM, (5, 0), "x", times=BIG)

    def test_times_is_passed_by_name_only(self):
        for call in (after, before):
            with self.assertRaises(TypeError):
                call(NIM, (5, 0), "aone", 1)

    def test_walk(self):
        self.assertEqual(list(walk(NIM, [])), [(5, 0)])
        self.assertEqual(list(walk(game=NIM, play=("aone", "btwo"))), [(5, 0), (4, 1), (2, 0)])

    def test_walk_while_it_is_iterated(self):
        for bad in ["aone", "x"]:
            play = ["aone", bad, "y", "aone"]
            steps = walk(NIM, play)
            self.assertEqual(next(steps), (5, 0))
            self.assertEqual(next(steps), (4, 1))
            with self.assertRaises(BadPlay) as caught:
                next(steps)
            self.assertEqual(vars(caught.exception), {"index": 1})
            self.assertEqual(play, ["aone", bad, "y", "aone"])
        first = walk(NIM, ["x"])
        self.assertEqual(next(first), (5, 0))
        self.refused(BadPlay, {"index": 0}, next, first)

    def test_end_of(self):
        self.assertEqual(end_of(NIM, []), (5, 0))
        self.assertEqual(end_of(game=NIM, play=["atwo", "btwo", "aone"]), (0, 1))
        self.assertEqual(end_of(NIM, ("atwo", "btwo")), (1, 0))
        self.refused(BadPlay, {"index": 2}, end_of, NIM, ["atwo", "btwo", "atwo", "x"])
        self.refused(BadPlay, {"index": 1}, end_of, NIM, ["aone", "stones"])
        self.assertEqual(end_of(DEEP, ["free", "go"] * 100), (100, BIG - 100))

    def test_end_of_random_plays(self):
        for game in random_games(3, 10):
            for play, position in all_plays(game, game.start, 4):
                self.assertEqual(end_of(game, list(play)), position)
                for move in game.moves:
                    if end(game, position, [move.name]) is None:
                        self.refused(BadPlay, {"index": len(play)}, end_of, game, [*play, move.name, "x"])

    def test_a_game_without_counters(self):
        game = Game(["p"], [], [Move("m", "p", [], [])], [("g", [])])
        self.assertEqual(legal(game, ()), ["m"])
        self.assertEqual(after(game, (), "m", times=BIG), ())
        self.assertEqual(before(game, (), "m"), ())
        self.assertEqual(goals_at(game, ()), ["g"])
        self.assertEqual(list(walk(game, ["m", "m"])), [(), (), ()])


if __name__ == "__main__":
    unittest.main()
