"""Points 19, 20 and 21: orders of plays."""

import random
import unittest
from itertools import combinations

from playhall.errors import Clash, NoMove
from playhall.games import Game
from playhall.gametext import read_game
from playhall.orders import going_with, least_order, longest_chain, meet, merged, order_gap, stages, without
from tests.helpers import WIDE, Checks, end, random_games

NAMES = [move.name for move in WIDE.moves]


def touches(game, name):
    move = game.move(name)
    return {need[0] for need in move.needs} | {change[0] for change in move.changes}


def plainly_meet(game, one, other):
    return bool(touches(game, one) & touches(game, other))


def all_akin(game, play):
    """All akin plays, by exchanges."""
    found = [tuple(play)]
    for one in found:
        for at in range(len(one) - 1):
            if not plainly_meet(game, one[at], one[at + 1]):
                other = one[:at] + (one[at + 1], one[at]) + one[at + 2:]
                if other not in found:
                    found.append(other)
    return found


def random_plays(seed, count, length):
    """Games with a play each, which need not be legal."""
    rng = random.Random(seed)
    games = [WIDE, *random_games(seed, 5, counters=4, moves=5)]
    plays = []
    for index in range(count):
        game = games[index % len(games)]
        plays.append((game, [rng.choice(game.moves).name for _ in range(rng.randint(0, length))]))
    return plays


class MeetTest(Checks):
    def test_meet(self):
        self.assertIs(meet(WIDE, "xup", "both"), True)
        self.assertIs(meet(WIDE, "both", "ydown"), True)
        self.assertIs(meet(WIDE, "xup", "ydown"), False)
        self.assertIs(meet(WIDE, "xup", "xup"), True)
        self.assertIs(meet(WIDE, "zzz", "zzz"), True)
        self.assertIs(meet(WIDE, "nod", "nod"), False)
        self.assertIs(meet(game=WIDE, one="nod", other="xup"), False)

    def test_meet_refuses_the_first_unknown_name(self):
        self.refused(NoMove, {"name": "a"}, meet, WIDE, "a", "b")
        self.refused(NoMove, {"name": "b"}, meet, WIDE, "nod", "b")

    def test_all_pairs(self):
        for game in [WIDE, *random_games(51, 20)]:
            for one in game.moves:
                for other in game.moves:
                    self.assertIs(meet(game, one.name, other.name), plainly_meet(game, one.name, other.name))


class GapTest(Checks):
    def test_gaps_of_counters(self):
        self.assertEqual(order_gap(WIDE, ["xup", "both"], ["both", "xup"]), ("x", 0))
        self.assertEqual(order_gap(WIDE, ["xup", "both"], ["xup"]), ("x", 1))
        self.assertEqual(order_gap(WIDE, ["xup"], ["xup", "nod", "both"]), ("x", 1))
        self.assertEqual(order_gap(WIDE, ["ydown", "xup", "ydown"], ["xup", "ydown", "both"]), ("x", 1))
        self.assertEqual(order_gap(WIDE, ["both", "ydown"], ["ydown", "both"]), ("y", 0))
        self.assertEqual(order_gap(WIDE, ["ydown", "nod", "ydown", "both"], ["ydown", "both", "ydown"]), ("y", 1))
        self.assertEqual(order_gap(WIDE, ["zzz"], []), ("z", 0))

    def test_gaps_of_moves_that_touch_no_counter(self):
        self.assertEqual(order_gap(WIDE, ["nod"], []), (None, "nod"))
        self.assertEqual(order_gap(WIDE, ["wave"], ["nod"]), (None, "nod"))
        self.assertEqual(order_gap(WIDE, ["wave", "wave", "nod"], ["nod", "wave"]), (None, "wave"))
        self.assertEqual(order_gap(WIDE, ["wave", "zzz"], ["zzz", "zzz"]), ("z", 1))

    def test_akin_plays(self):
        self.assertIsNone(order_gap(WIDE, [], []))
        self.assertIsNone(order_gap(game=WIDE, one=("nod", "xup", "ydown", "wave"), other=["wave", "ydown", "xup", "nod"]))
        self.assertIsNone(order_gap(WIDE, ["xup", "both", "zzz"], ["zzz", "xup", "both"]))

    def test_unknown_names(self):
        self.refused(NoMove, {"name": "b"}, order_gap, WIDE, ["nod", "b", "c"], ["a"])
        self.refused(NoMove, {"name": "a"}, order_gap, WIDE, ["nod"], ["nod", "nod", "a", "b"])

    def test_there_is_no_gap_if_and_only_if_plays_are_akin(self):
        for game, play in random_plays(52, 60, 5):
            akin = all_akin(game, play)
            for _, other in random_plays(53, 12, 5) + [(None, list(one)) for one in akin[:10]]:
                if all(name in [move.name for move in game.moves] for name in other):
                    self.assertEqual(order_gap(game, play, other) is None, tuple(other) in akin)


class OrderTest(Checks):
    def test_least_order(self):
        self.assertEqual(least_order(WIDE, []), [])
        self.assertEqual(least_order(WIDE, ["wave", "nod", "zzz", "both", "ydown", "xup"]),
                         ["both", "xup", "ydown", "zzz", "nod", "wave"])
        self.assertEqual(least_order(game=WIDE, play=("ydown", "xup", "ydown")), ["xup", "ydown", "ydown"])

    def test_least_orders_by_all_akin_plays(self):
        for game, play in random_plays(54, 80, 6):
            names = [move.name for move in game.moves]
            best = min(all_akin(game, play), key=lambda one: [names.index(name) for name in one])
            self.assertEqual(least_order(game, play), list(best))

    def test_akin_plays_lead_to_the_same_position(self):
        for game, play in random_plays(55, 60, 5):
            for one in all_akin(game, play):
                self.assertEqual(end(game, game.start, one), end(game, game.start, play))

    def test_stages(self):
        self.assertEqual(stages(WIDE, []), [])
        self.assertEqual(stages(WIDE, ["xup", "ydown", "both", "nod", "xup", "zzz", "nod"]), [[0, 1, 3, 5, 6], [2], [4]])
        self.assertEqual(stages(game=WIDE, play=("ydown", "ydown")), [[0], [1]])

    def test_stages_and_chains(self):
        for game, play in random_plays(56, 120, 7):
            found = stages(game, play)
            numbers = []
            for index, name in enumerate(play):
                earlier = [numbers[at] for at in range(index) if plainly_meet(game, play[at], name)]
                numbers.append(max(earlier) + 1 if earlier else 0)
            self.assertEqual(found, [[at for at in range(len(play)) if numbers[at] == stage]
                                     for stage in range(max(numbers, default=-1) + 1)])
            chain = longest_chain(game, play)
            self.assertEqual(chain, sorted(chain))
            self.assertEqual(len(chain), len(found))
            for one, other in zip(chain, chain[1:]):
                self.assertLess(one, other)
                self.assertTrue(plainly_meet(game, play[one], play[other]))

    def test_longest_chain(self):
        self.assertEqual(longest_chain(WIDE, []), [])
        self.assertEqual(longest_chain(WIDE, ["zzz", "xup", "both", "ydown"]), [1, 2, 3])
        self.assertEqual(longest_chain(game=WIDE, play=("nod",)), [0])

    def test_plays_of_200_moves(self):
        play = NAMES * 33 + NAMES[:2]
        self.assertEqual(len(play), 200)
        self.assertEqual(order_gap(WIDE, play, least_order(WIDE, play)), None)
        self.assertEqual(len(stages(WIDE, play)), len(longest_chain(WIDE, play)))
        self.assertEqual(sum(len(part) for part in without(WIDE, play, 0)), 200)

    def test_unknown_names(self):
        for call in (least_order, stages, longest_chain):
            self.refused(NoMove, {"name": "b"}, call, WIDE, ["nod", "b", "a"])


class GoingTest(Checks):
    def test_going_with(self):
        play = ["xup", "ydown", "zzz", "both", "ydown", "xup", "zzz"]
        self.assertEqual(going_with(WIDE, play, 0), [0, 3, 4, 5])
        self.assertEqual(going_with(WIDE, play, 1), [1, 3, 4, 5])
        self.assertEqual(going_with(WIDE, play, 2), [2, 6])
        self.assertEqual(going_with(game=WIDE, play=tuple(play), index=4), [4])
        self.assertEqual(going_with(WIDE, ["nod", "nod"], 0), [0])
        self.assertEqual(without(WIDE, play, 0), (["ydown", "zzz", "zzz"], ["xup", "both", "ydown", "xup"]))
        self.assertEqual(without(game=WIDE, play=tuple(play), index=6), (play[:6], ["zzz"]))
        self.assertIsInstance(without(WIDE, play, 0), tuple)
        self.assertEqual(len(play), 7)

    def test_random_plays(self):
        for game, play in random_plays(57, 100, 7):
            for index in range(len(play)):
                going = [index]
                for later in range(index + 1, len(play)):
                    if any(plainly_meet(game, play[later], play[one]) for one in going):
                        going.append(later)
                self.assertEqual(going_with(game, play, index), going)
                rest, moves = without(game, play, index)
                self.assertEqual(moves, [play[at] for at in going])
                self.assertEqual(rest, [play[at] for at in range(len(play)) if at not in going])
                self.assertIsNone(order_gap(game, play, rest + moves))

    def test_unknown_names(self):
        for call in (going_with, without):
            self.refused(NoMove, {"name": "b"}, call, WIDE, ["nod", "b", "a"], 0)
            self.refused(NoMove, {"name": "b"}, call, WIDE, ["b", "nod"], 1)


class MergeTest(Checks):
    def test_merged(self):
        base, one, other = ["xup", "nod"], ["zzz", "xup"], ["ydown", "nod"]
        self.assertEqual(merged(WIDE, base, one, other), ["xup", "nod", "zzz", "xup", "ydown", "nod"])
        self.assertEqual(merged(game=WIDE, base=(), one=(), other=tuple(other)), other)
        self.assertEqual(merged(WIDE, base, [], []), base)
        self.assertIsNot(merged(WIDE, base, [], []), base)
        self.assertEqual((base, one, other), (["xup", "nod"], ["zzz", "xup"], ["ydown", "nod"]))

    def test_clash(self):
        self.refused(Clash, {"first": 1, "second": 2}, merged, WIDE, [], ["nod", "xup", "zzz"], ["nod", "zzz", "xup"])
        self.refused(Clash, {"first": 0, "second": 1}, merged, WIDE, ["zzz"], ["both", "xup"], ["zzz", "ydown", "xup"])
        self.assertEqual(merged(WIDE, ["xup"], ["ydown"], ["xup"]), ["xup", "ydown", "xup"])

    def test_unknown_names_come_before_the_clash(self):
        self.refused(NoMove, {"name": "a"}, merged, WIDE, ["nod", "a", "b"], ["xup"], ["xup", "c"])
        self.refused(NoMove, {"name": "b"}, merged, WIDE, ["nod"], ["xup", "b"], ["xup", "c"])
        self.refused(NoMove, {"name": "c"}, merged, WIDE, ["nod"], ["xup"], ["xup", "c"])

    def test_plays_that_do_not_clash_can_be_exchanged(self):
        for (game, one), (_, other) in combinations(random_plays(58, 60, 4), 2):
            if not all(name in [move.name for move in game.moves] for name in other):
                continue
            clashes = [(a, b) for a in range(len(one)) for b in range(len(other)) if plainly_meet(game, one[a], other[b])]
            if clashes:
                first, second = min(clashes)
                self.refused(Clash, {"first": first, "second": second}, merged, game, [], one, other)
            else:
                self.assertEqual(merged(game, [], one, other), one + other)
                if end(game, game.start, one) is not None and end(game, game.start, other) is not None:
                    self.assertIsNotNone(end(game, game.start, one + other))
                    self.assertEqual(end(game, game.start, one + other), end(game, game.start, other + one))

    def test_a_game_without_counters(self):
        game = Game(["p"], [], read_game("players p\nmove b p\nmove a p").moves)
        self.assertEqual(least_order(game, ["a", "b", "a", "b"]), ["b", "b", "a", "a"])
        self.assertEqual(stages(game, ["a", "b"]), [[0, 1]])
        self.assertEqual(len(longest_chain(game, ["a", "b"])), 1)
        self.assertEqual(order_gap(game, ["a", "b"], ["a", "a"]), (None, "b"))


if __name__ == "__main__":
    unittest.main()
