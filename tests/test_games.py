"""Points 7 and 8: games and the shifts of their moves."""

import unittest

from playhall.errors import BadGame, NoCounter, NoGoal, NoMove
from playhall.games import Game
from playhall.moves import Move
from playhall.shifts import Shift
from tests.helpers import NIM, WIDE, Checks, all_plays, end, random_games

TAKE = Move("take", "ann", [("stones", 1, None)], [("stones", -1)])
COUNTERS = [("stones", 5, 3), ("bank", 2, 0)]


class GameTest(Checks):
    def bad(self, part, index, *args):
        self.refused(BadGame, {"part": part, "index": index}, Game, *args)

    def test_attributes(self):
        game = Game(["bob", "ann"], COUNTERS, [TAKE], [("win", [("stones", None, 3), ("bank", 1, None),
                                                               ("stones", 1, None)]), ("all", [])])
        self.assertEqual(game.players, ("bob", "ann"))
        self.assertEqual(game.counters, ("stones", "bank"))
        self.assertEqual(game.tops, (5, 2))
        self.assertEqual(game.start, (3, 0))
        self.assertEqual(game.moves, (TAKE,))
        self.assertEqual(game.goals, (("win", (("bank", 1, None), ("stones", 1, 3))), ("all", ())))

    def test_empty_parts(self):
        game = Game(players=("ann",), counters=(), moves=())
        self.assertEqual((game.counters, game.tops, game.start, game.moves, game.goals), ((), (), (), (), ()))

    def test_same_names_for_all_kinds(self):
        game = Game(["a"], [("a", 1, 0)], [Move("a", "a", [("a", 0, 0)], [("a", 1)], sign="a")], [("a", [("a", 1, 1)])])
        self.assertEqual(game.move("a").player, "a")
        self.assertEqual(game.shift("a").rows, (("a", 0, 0, 1),))
        self.assertEqual(game.goal("a"), (("a", 1, 1),))

    def test_players(self):
        self.bad("players", 0, [], [], [])
        self.bad("players", 0, ["Ann"], [], [])
        self.bad("players", 1, ["ann", ""], [], [])
        self.bad("players", 2, ["ann", "bob", "ann", ""], [], [])
        self.bad("players", 1, ["ann", "ann", ""], [], [])

    def test_counters(self):
        self.bad("counters", 0, ["ann"], [("A", 1, 0)], [])
        self.bad("counters", 1, ["ann"], [("a", 1, 0), ("a", 1, 0), ("B", 1, 0)], [])
        self.bad("counters", 1, ["ann"], [("a", 1, 0), ("b", 1, 2)], [])
        self.bad("counters", 1, ["ann"], [("a", 1, 0), ("b", 1, -1)], [])
        self.bad("counters", 0, ["ann"], [("a", -1, -1)], [])
        self.bad("counters", 0, ["ann"], [("a", -1, 0)], [])
        self.assertEqual(Game(["ann"], [("a", 0, 0), ("b", 3, 3)], []).start, (0, 3))

    def test_moves(self):
        other = Move("other", "ann", [], [])
        self.bad("moves", 1, ["ann"], COUNTERS, [TAKE, TAKE])
        self.bad("moves", 2, ["ann"], COUNTERS, [TAKE, other, Move("take", "ann", [], [])])
        self.bad("moves", 1, ["ann"], COUNTERS, [other, Move("m", "bob", [], [])])
        self.bad("moves", 0, ["ann"], COUNTERS, [Move("m", "ann", [("x", 0, 1)], [])])
        self.bad("moves", 0, ["ann"], COUNTERS, [Move("m", "ann", [], [("x", 1)])])
        self.bad("moves", 0, ["ann"], COUNTERS, [Move("m", "ann", [("bank", 0, 1), ("x", 0, 1)], [("bank", 1)])])
        # What adds up to 0 is no change of the move any more.
        self.assertEqual(Game(["ann"], [], [Move("m", "ann", [], [("x", 1), ("x", -1)])]).shift("m").rows, ())

    def test_goals(self):
        self.bad("goals", 0, ["ann"], COUNTERS, [], [("W", [])])
        self.bad("goals", 1, ["ann"], COUNTERS, [], [("w", []), ("w", [])])
        for need in [("x", 0, 1), ("X", 0, 1), ("bank", -1, None), ("bank", None, -1), ("bank", None, None)]:
            self.bad("goals", 1, ["ann"], COUNTERS, [], [("v", []), ("w", [("bank", 0, 0), need])])
        self.bad("goals", 0, ["ann"], COUNTERS, [], [("w", [("bank", -1, 2), ("bank", 0, 1)])])

    def test_first_invalid_part(self):
        counters, moves, goals = [("A", 1, 0)], [Move("m", "zoe", [], [])], [("W", [])]
        self.bad("players", 0, [], counters, moves, goals)
        self.bad("counters", 0, ["ann"], counters, moves, goals)
        self.bad("moves", 0, ["ann"], [], moves, goals)
        self.bad("goals", 0, ["ann"], [], [], goals)

    def test_what_is_passed_stays_and_is_copied(self):
        players, counters, moves = ["ann"], list(COUNTERS), [TAKE]
        needs = [("stones", 0, None), ("bank", 0, 1)]
        goals = [("win", needs)]
        game = Game(players, counters, moves, goals)
        self.assertEqual((players, counters, moves), (["ann"], COUNTERS, [TAKE]))
        self.assertEqual(goals, [("win", [("stones", 0, None), ("bank", 0, 1)])])
        for part in (players, counters, moves, needs, goals):
            part.clear()
        self.assertEqual(game, Game(("ann",), tuple(COUNTERS), (TAKE,), (("win", (("bank", 0, 1), ("stones", 0, None))),)))

    def test_move_goal_and_their_errors(self):
        self.assertEqual(NIM.move("bone").player, "bob")
        self.assertEqual(NIM.goal("alost"), (("stones", 0, 0), ("turn", 0, 0)))
        self.refused(NoMove, {"name": "alost"}, NIM.move, "alost")
        self.refused(NoMove, {"name": "stones"}, NIM.shift, "stones")
        self.refused(NoGoal, {"name": "aone"}, NIM.goal, "aone")
        self.assertEqual(NIM.move(name="aone"), NIM.moves[0])

    def test_shift_of_a_move(self):
        def row(need, amount):
            needs = [] if need is None else [("c", *need)]
            return Game(["p"], [("c", 7, 0)], [Move("m", "p", needs, [("c", amount)])]).shift("m").rows

        self.assertEqual(row(None, 2), (("c", 0, 5, 2),))
        self.assertEqual(row(None, -2), (("c", 2, 7, -2),))
        self.assertEqual(row((1, None), 0), (("c", 1, 7, 0),))
        self.assertEqual(row((None, 4), 0), (("c", 0, 4, 0),))
        self.assertEqual(row((0, 9), 0), (("c", 0, 7, 0),))
        self.assertEqual(row((1, 6), -2), (("c", 2, 6, -2),))
        self.assertEqual(row((3, 9), -2), (("c", 3, 7, -2),))
        self.assertEqual(row((1, 6), 2), (("c", 1, 5, 2),))
        self.assertEqual(row((1, 4), 2), (("c", 1, 4, 2),))
        self.assertEqual(row((5, 2), 0), (("c", 5, 2, 0),))
        self.assertEqual(row(None, 9), (("c", 0, -2, 9),))
        self.assertEqual(row(None, -9), (("c", 9, 7, -9),))
        self.assertEqual(WIDE.shift("nod").rows, ())
        self.assertEqual(WIDE.shift("both").rows, (("x", 1, 9, 0), ("y", 0, 8, 1)))

    def test_shift_of_a_play(self):
        self.assertEqual(NIM.shift_of([]).rows, ())
        play = ["aone", "btwo", "aone"]
        self.assertEqual(NIM.shift_of(play), NIM.shift("aone") + NIM.shift("btwo") + NIM.shift("aone"))
        self.assertEqual(NIM.shift_of(tuple(play)).rows, (("stones", 4, 5, -4), ("turn", 0, 0, 1)))
        self.assertEqual(play, ["aone", "btwo", "aone"])
        self.assertIsInstance(NIM.shift_of(play=play), Shift)
        self.refused(NoMove, {"name": "x"}, NIM.shift_of, ["bone", "x", "bone", "y"])
        self.assertEqual(WIDE.shift_of(["nod"] * 200).rows, ())

    def test_shift_of_a_play_is_made_where_the_play_is_legal(self):
        for game in random_games(1, 8):
            for play, _ in all_plays(game, game.start, 3):
                shift = game.shift_of(play)
                for _, position in all_plays(game, game.start, 2):
                    values = dict(zip(game.counters, position))
                    place = end(game, position, play)
                    self.assertEqual(shift.gap(values) is None, place is not None)
                    if place is not None:
                        self.assertEqual(shift.applied(values), dict(zip(game.counters, place)))

    def test_started(self):
        other = NIM.started("stones", 2)
        self.assertEqual(other.start, (2, 0))
        self.assertEqual(NIM.start, (5, 0))
        self.assertEqual((other.players, other.counters, other.tops, other.moves, other.goals),
                         (NIM.players, NIM.counters, NIM.tops, NIM.moves, NIM.goals))
        self.assertEqual(NIM.started(counter="stones", value=5), NIM)
        self.assertEqual(NIM.started("turn", 1).start, (5, 1))
        self.refused(NoCounter, {"name": "aone"}, NIM.started, "aone", 99)
        self.refused(BadGame, {"part": "counters", "index": 0}, NIM.started, "stones", 6)
        self.refused(BadGame, {"part": "counters", "index": 1}, NIM.started, "turn", -1)

    def test_equality(self):
        def made(**other):
            parts = {"players": ["ann", "bob"], "counters": COUNTERS, "moves": [TAKE], "goals": [("w", [])]}
            return Game(**{**parts, **other})

        self.assertIs(made() == made(), True)
        self.assertIs(made() != made(), False)
        for other in [
            made(players=["bob", "ann"]), made(counters=[("stones", 5, 2), ("bank", 2, 0)]),
            made(counters=[("stones", 6, 3), ("bank", 2, 0)]), made(counters=COUNTERS[::-1]), made(moves=[]),
            made(counters=[("stones", 5, 3), ("banc", 2, 0)]),
            made(moves=[Move("take", "ann", [("stones", 1, None)], [("stones", -1)], foul=True)]),
            made(goals=[]), made(goals=[("v", [])]), None, "game", 5,
        ]:
            self.assertIs(made() == other, False)
            self.assertIs(made() != other, True)

    def test_a_game_of_the_greatest_size(self):
        labels = [f"c{'abcdefghijkl'[k]}" for k in range(12)]
        counters = [(label, 10 ** 40, 10 ** 39) for label in labels]
        moves = [Move("m" + chr(97 + k), "p", [(label, 1, None) for label in labels] * 2,
                      [(label, k - 12) for label in labels] * 2) for k in range(24)]
        goals = [("g" + chr(97 + k), [(label, 0, k) for label in labels] * 2) for k in range(12)]
        game = Game(["p"], counters, moves, goals)
        self.assertEqual(len(game.shift("ma").rows), 12)
        self.assertEqual(game.shift("ma").rows[0], ("ca", 24, 10 ** 40, -24))
        self.assertEqual(game.shift_of(["mb"] * 200).rows[0], ("ca", 22 * 200, 10 ** 40, -22 * 200))


if __name__ == "__main__":
    unittest.main()
