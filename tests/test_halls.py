"""Points 22 and 23: halls."""

import random
import unittest

from playhall.errors import BadHall, NoMove, NoTable
from playhall.games import Game
from playhall.gametext import read_game, write_game
from playhall.halls import Hall
from playhall.moves import Move
from playhall.positions import end_of
from tests.helpers import NIM, Checks, end, random_games

BANKED = read_game("players ann bob\ncounter stones 5 5\ncounter bank 9 2\nmove take ann if bank<=8 do bank+1 stones-1 show t\n"
                   "move pay bob do bank-2 foul\ngoal rich if bank>=5 stones<=3\ngoal all")
OTHER = read_game("players zoe bob.x ann\ncounter bank 9 2\ncounter luck 1 0\nmove take zoe do bank-1\n"
                  "move hope ann if luck=0 do luck+1 show hope\ngoal rich if bank=0")
PLAIN = Game(["p"], [], [])


class HallTest(Checks):
    def bad(self, part, index, *args):
        self.refused(BadHall, {"part": part, "index": index}, Hall, *args)

    def test_the_game_of_a_hall(self):
        hall = Hall([("bank", 9, 2), ("spare", 3, 3)], [("two", BANKED), ("one", OTHER)])
        self.assertEqual(write_game(hall.game), "\n".join([
            "players ann bob zoe bob.x",
            "counter bank 9 2",
            "counter spare 3 3",
            "counter two.stones 5 5",
            "counter one.luck 1 0",
            "move two.take ann if bank<=8 do bank+1 two.stones-1 show two.t",
            "move two.pay bob do bank-2 foul",
            "move one.take zoe do bank-1",
            "move one.hope ann if one.luck=0 do one.luck+1 show one.hope",
            "goal two.rich if bank>=5 two.stones<=3",
            "goal two.all",
            "goal one.rich if bank=0",
        ]))
        self.assertEqual(hall.game.moves[0].needs, (("bank", None, 8),))
        self.assertEqual(list(hall), ["two", "one"])
        self.assertIs(hall["two"], BANKED)
        self.assertIs(hall["one"], OTHER)

    def test_without_purses_counters_belong_to_the_tables(self):
        hall = Hall(purses=(), tables=(("b", BANKED), ("a", OTHER)))
        self.assertEqual(hall.game.counters, ("b.stones", "b.bank", "a.bank", "a.luck"))
        self.assertEqual(hall.game.start, (5, 2, 2, 0))
        self.assertEqual(hall.game.tops, (5, 9, 9, 1))

    def test_a_purse_that_stands_for_counters_of_several_tables(self):
        hall = Hall([("bank", 9, 2)], [("two", BANKED), ("one", OTHER)])
        play = ["two.take", "one.take", "two.pay", "one.hope"]
        position = end_of(hall.game, play)
        self.assertEqual(position, (0, 4, 1))
        self.assertEqual(hall.table_position(position, "two"), (4, 0))
        self.assertEqual(hall.table_position(position=position, name="one"), (0, 1))
        self.assertEqual(hall.table_play(play, "two"), ["take", "pay"])
        self.assertEqual(hall.table_play(play=tuple(play), name="one"), ["take", "hope"])
        self.assertEqual(hall.table_play([], "one"), [])
        self.assertEqual(play, ["two.take", "one.take", "two.pay", "one.hope"])

    def test_purses_may_be_called_like_tables(self):
        game = read_game("players p\ncounter bank 1 0\ncounter x 2 1\nmove bank p do bank+1 x-1")
        hall = Hall([("bank", 1, 0)], [("bank", game), ("x", game)])
        self.assertEqual(hall.game.counters, ("bank", "bank.x", "x.x"))
        self.assertEqual(hall.game.shift("x.bank").rows, (("bank", 0, 0, 1), ("x.x", 1, 2, -1)))
        self.assertEqual(hall.table_position((1, 0, 2), "x"), (1, 2))

    def test_purses(self):
        tables = [("t", PLAIN)]
        self.bad("purses", 0, [("Bank", 1, 0)], tables)
        self.bad("purses", 0, [("a.b", 1, 0)], tables)
        self.bad("purses", 1, [("a", 1, 0), ("", 1, 0)], tables)
        self.bad("purses", 2, [("a", 1, 0), ("b", 1, 0), ("a", 1, 0)], tables)
        self.bad("purses", 1, [("a", 1, 0), ("b", 1, 2)], tables)
        self.bad("purses", 1, [("a", 1, 1), ("b", 1, -1)], tables)
        self.bad("purses", 0, [("a", -1, 0)], [])
        self.assertEqual(Hall([("a", 0, 0)], tables).game.counters, ("a",))

    def test_tables(self):
        self.bad("tables", 0, [], [])
        self.bad("tables", 0, [], [("A", PLAIN)])
        self.bad("tables", 0, [], [("a.b", PLAIN)])
        self.bad("tables", 1, [], [("a", PLAIN), ("a", PLAIN)])
        self.bad("tables", 2, [], [("a", PLAIN), ("b", PLAIN), ("", PLAIN)])

    def test_labels_of_the_games_of_tables_are_names(self):
        for rows in ["counter a.b 1 0", "move a.b p", "move m p show a.b", "goal a.b"]:
            game = read_game("players p\n" + rows)
            self.bad("tables", 1, [], [("a", PLAIN), ("b", game), ("a", PLAIN)])
        players = read_game("players p.q\nmove m p.q show s")
        self.assertEqual(Hall([], [("a", players)]).game.players, ("p.q",))

    def test_counters_that_differ_from_their_purse(self):
        tables = [("two", BANKED), ("one", OTHER)]
        self.bad("tables", 0, [("bank", 8, 2)], tables)
        self.bad("tables", 0, [("bank", 9, 3)], tables)
        self.bad("tables", 1, [("luck", 1, 1)], tables)
        self.bad("tables", 1, [("luck", 2, 0)], tables)
        self.bad("tables", 1, [("bank", 9, 2)], [("two", BANKED), ("one", OTHER.started("bank", 1))])

    def test_purses_come_before_tables(self):
        self.bad("purses", 0, [("A", 1, 0)], [("A", PLAIN)])

    def test_tables_that_are_not_there(self):
        hall = Hall([("bank", 9, 2)], [("two", BANKED)])
        self.refused(NoTable, {"name": "bank"}, lambda: hall["bank"])
        self.refused(NoTable, {"name": "x"}, hall.table_play, ["x"], "x")
        self.refused(NoMove, {"name": "x"}, hall.table_play, ["two.take", "x", "y"], "two")
        self.refused(NoMove, {"name": "take"}, hall.table_play, ["take"], "two")
        self.refused(NoTable, {"name": "x"}, hall.table_position, (2, 5), "x")

    def test_what_is_passed_stays_and_is_copied(self):
        purses, tables = [("bank", 9, 2)], [("two", BANKED), ("one", OTHER)]
        hall = Hall(purses, tables)
        self.assertEqual((purses, tables), ([("bank", 9, 2)], [("two", BANKED), ("one", OTHER)]))
        purses.clear()
        tables.clear()
        self.assertEqual(list(hall), ["two", "one"])
        self.assertEqual(hall.table_position((7, 4, 1), "one"), (7, 1))
        self.assertEqual(hall.table_play(["one.hope"], "one"), ["hope"])

    def test_halls_are_equal_only_to_themselves(self):
        hall = Hall([], [("two", NIM)])
        self.assertIs(hall == hall, True)
        self.assertIs(hall == Hall([], [("two", NIM)]), False)

    def test_plays_of_a_hall_are_legal_if_those_of_the_tables_are(self):
        rng = random.Random(61)
        games = random_games(62, 6)
        for _ in range(60):
            tables = [("x", rng.choice(games)), ("y", rng.choice(games)), ("z", rng.choice(games))]
            hall = Hall([], tables)
            play = [rng.choice(hall.game.moves).name for _ in range(rng.randint(0, 5))]
            position = end(hall.game, hall.game.start, play)
            parts = [end(game, game.start, hall.table_play(play, name)) for name, game in tables]
            self.assertEqual(position is None, None in parts)
            if position is not None:
                self.assertEqual([hall.table_position(position, name) for name, _ in tables], parts)

    def test_a_hall_of_the_greatest_size(self):
        labels = [chr(97 + k) for k in range(12)]
        game = Game(["p"], [(c, 9, 5) for c in labels],
                    [Move("m" + chr(97 + k), "p", [(labels[k % 12], 1, None)], [(labels[(k + 1) % 12], 1)]) for k in range(24)],
                    [(c, [(c, 9, 9)]) for c in labels])
        hall = Hall([(c, 9, 5) for c in labels[:6]], [("t" + c, game) for c in labels[:6]])
        self.assertEqual((len(hall.game.counters), len(hall.game.moves), len(hall.game.goals)), (6 + 6 * 6, 144, 72))
        play = [f"t{c}.ma" for c in labels[:4]]
        self.assertEqual(hall.table_position(end_of(hall.game, play), "tf"), (5, 9, *[5] * 10))


if __name__ == "__main__":
    unittest.main()
