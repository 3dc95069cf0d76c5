"""Points 24 and 25 and the least start of point 69: what teams can force."""

import random
import unittest

from playhall.arenas import Arena
from playhall.errors import NoCounter, NoGoal, NoPlayer, TooLarge
from playhall.forcing import answers, forced_ranks, least_start, targets_of, trap
from playhall.games import Game
from playhall.gametext import read_game
from tests.helpers import NIM, Checks, plain_ranks, random_games

TEAMS = [[], ["ann"], ["bob"], ["ann", "bob"], ["bob", "bob"], ["bob", "ann", "bob"]]


class TargetsTest(Checks):
    def test_targets(self):
        arena = Arena(NIM)
        self.assertEqual(targets_of(arena, "alost"), [arena.number((0, 0))])
        self.assertEqual(targets_of(arena=arena, goal="blost"), [arena.number((0, 1))])
        self.refused(NoGoal, {"name": "ann"}, targets_of, arena, "ann")
        even = Arena(read_game("players p\ncounter a 4 0\nmove m p do a+1\ngoal low if a<=2\ngoal none if a>=5\ngoal all"))
        self.assertEqual(targets_of(even, "low"), [0, 1, 2])
        self.assertEqual(targets_of(even, "none"), [])
        self.assertEqual(targets_of(even, "all"), [0, 1, 2, 3, 4])


class RanksTest(Checks):
    def test_nim(self):
        arena = Arena(NIM)
        won = [arena.number((0, 1))]
        ranks = forced_ranks(arena, ["ann"], won)
        self.assertEqual(ranks, {arena.number(place): rank for place, rank in
                                 [((0, 1), 0), ((1, 0), 1), ((2, 0), 1), ((3, 1), 2), ((5, 0), 3)]})
        self.assertEqual(answers(arena, ["ann"], won), {arena.number((1, 0)): "aone", arena.number((2, 0)): "atwo",
                                                        0: "atwo"})
        self.assertEqual(trap(arena, ["ann"], won),
                         [number for number in range(arena.size) if number not in ranks])

    def test_the_team_need_not_move_before_the_opponents(self):
        game = "players ann bob\ncounter a 3 0\nmove go ann if a=0 do a+1\n"
        leave = Arena(read_game(game + "move spoil bob if a=0 do a+3"))
        self.assertEqual(forced_ranks(leave, ["ann"], [1]), {1: 0})
        late = Arena(read_game(game + "move delay bob if a=0 do a+2\nmove on bob if a=2 do a-1"))
        self.assertEqual(late.positions, [(0,), (1,), (2,)])
        self.assertEqual(forced_ranks(late, ["ann"], [1]), {0: 2, 1: 0, 2: 1})
        self.assertEqual(answers(late, ["ann"], [1]), {0: "go"})

    def test_positions_without_legal_moves(self):
        arena = Arena(read_game("players ann bob\ncounter a 1 0\nmove m ann do a+1"))
        self.assertEqual(forced_ranks(arena, ["ann"], []), {})
        self.assertEqual(forced_ranks(arena, ["bob"], [0]), {0: 0})
        self.assertEqual(trap(arena, ["bob"], [0]), [1])
        self.assertEqual(forced_ranks(arena, ["bob"], [1]), {0: 1, 1: 0})
        self.assertEqual(trap(arena, ["bob"], [1]), [])
        self.assertEqual(answers(arena, ["bob"], [1]), {})
        self.assertEqual(answers(arena, ["ann"], [1]), {0: "m"})

    def test_loops_have_no_rank(self):
        arena = Arena(read_game("players ann bob\ncounter a 2 0\nmove up ann do a+1\nmove stay bob if a=0\nmove wait ann if a=1"))
        self.assertEqual(forced_ranks(arena, ["ann"], [2]), {1: 1, 2: 0})
        self.assertEqual(forced_ranks(arena, ["ann", "bob"], [2]), {0: 2, 1: 1, 2: 0})
        self.assertEqual(forced_ranks(arena, [], [2]), {2: 0})

    def test_the_team_takes_the_least_rank_and_the_opponents_the_greatest(self):
        arena = Arena(read_game("players ann bob\ncounter a 9 0\nmove far ann if a=0 do a+1\nmove near ann if a=0 do a+4\n"
                                "move one bob if a=4 do a+1\nmove two bob if a=4 do a+3\nmove on bob if a>=5 a<=8 do a+1\n"
                                "move along ann if a>=1 a<=3 do a+1"))
        ranks = forced_ranks(arena, ["ann"], [arena.number((9,))])
        self.assertEqual({arena.positions[number][0]: rank for number, rank in ranks.items()},
                         {9: 0, 8: 1, 7: 2, 6: 3, 5: 4, 4: 5, 3: 6, 2: 7, 1: 8, 0: 6})
        self.assertEqual(answers(arena, ["ann"], [arena.number((9,))])[0], "near")

    def test_the_first_of_several_best_answers(self):
        arena = Arena(read_game("players ann bob\ncounter a 3 0\nmove slow ann if a=0 do a+1\nmove z ann if a=0 do a+3\n"
                                "move c ann if a=0 do a+3\nmove on ann if a=1 do a+2"))
        self.assertEqual(answers(arena, ["ann"], [arena.number((3,))])[0], "z")

    def test_targets_are_empty_repeated_or_not_ascending(self):
        arena = Arena(NIM)
        for team in TEAMS:
            self.assertEqual(forced_ranks(arena, team, []), {})
            self.assertEqual(answers(arena, team, []), {})
            self.assertEqual(trap(arena, team, []), list(range(arena.size)))
            targets = [9, 2, 9, 8, 2]
            for call in (forced_ranks, answers, trap):
                self.assertEqual(call(arena, team, targets), call(arena, tuple(team), (2, 8, 9)))
            self.assertEqual(targets, [9, 2, 9, 8, 2])

    def test_players_count_once(self):
        arena = Arena(NIM)
        for call in (forced_ranks, answers, trap):
            self.assertEqual(call(arena, ["bob", "bob"], [8]), call(arena=arena, team=["bob"], targets=[8]))
            self.assertEqual(call(arena, ["bob", "ann"], [8]), call(arena, ["ann", "bob", "ann"], [8]))

    def test_unknown_players(self):
        arena = Arena(NIM)
        for call in (forced_ranks, answers, trap):
            self.refused(NoPlayer, {"name": "zoe"}, call, arena, ["ann", "zoe", "yan"], [])
            self.refused(NoPlayer, {"name": "aone"}, call, arena, ["aone"], [0])

    def test_random_arenas(self):
        rng = random.Random(71)
        for game in random_games(72, 40, moves=5):
            arena = Arena(game)
            for team in TEAMS:
                targets = [number for number in range(arena.size) if rng.random() < 0.3]
                ranks = plain_ranks(arena, team, targets)
                self.assertEqual(forced_ranks(arena, team, targets), ranks)
                self.assertEqual(trap(arena, team, targets), [n for n in range(arena.size) if n not in ranks])
                self.check_answers(arena, team, targets, ranks)
                self.check_trap(arena, team, targets)

    def check_answers(self, arena, team, targets, ranks):
        found = answers(arena, team, targets)
        for number, row in enumerate(arena.ways):
            own = [(name, ranks[to]) for name, to in row if arena.game.move(name).player in team and to in ranks]
            any_own = any(arena.game.move(name).player in team for name, _ in row)
            self.assertEqual(number in found, ranks.get(number, 0) > 0 and any_own)
            if number in found:
                best = min(rank for _, rank in own)
                self.assertEqual(found[number], [name for name, rank in own if rank == best][0])

    def check_trap(self, arena, team, targets):
        """The words of point 25 on the positions of a trap."""
        caught = trap(arena, team, targets)
        for number in caught:
            self.assertNotIn(number, targets)
            row = arena.ways[number]
            own = [to for name, to in row if arena.game.move(name).player in team]
            other = [to for name, to in row if arena.game.move(name).player not in team]
            self.assertTrue(not row or any(to in caught for to in other) or (own and all(to in caught for to in own)))

    def test_what_is_returned_is_new(self):
        arena = Arena(NIM)
        for call in (forced_ranks, answers, trap):
            first = call(arena, ["ann"], [8])
            kept = list(first)
            first.clear()
            self.assertEqual(list(call(arena, ["ann"], [8])), kept)


class LeastStartTest(Checks):
    def test_least_start(self):
        self.assertEqual(least_start(NIM, "stones", ["ann"], "blost"), 1)
        self.assertEqual(least_start(NIM, "stones", ["bob"], "blost"), 1)
        self.assertEqual(least_start(game=NIM, counter="stones", team=("bob",), goal="alost", limit=50), 0)
        self.assertEqual(least_start(NIM, "turn", ["ann"], "blost"), 0)
        self.assertEqual(least_start(NIM.started("stones", 4), "turn", ["ann"], "blost"), 0)
        self.assertEqual(least_start(NIM.started("stones", 3), "turn", ["ann"], "blost"), 1)
        self.assertEqual(NIM.start, (5, 0))

    def test_values_up_to_the_top(self):
        game = read_game("players p\ncounter b 1 0\ncounter a 200 7\nmove m p do a-200 b+1\ngoal g if b=1")
        self.assertEqual(least_start(game, "a", ["p"], "g"), 200)
        self.assertEqual(least_start(game, "a", ["p"], "g", limit=2), 200)
        higher = read_game("players p\ncounter b 1 0\ncounter a 199 7\nmove m p if a>=200 do a-200 b+1\ngoal g if b=1")
        self.assertIsNone(least_start(higher, "a", ["p"], "g"))
        self.assertEqual(least_start(game, "b", ["p"], "g"), 1)
        self.assertEqual(least_start(game, "b", [], "g"), 1)

    def test_order_of_the_errors(self):
        self.refused(NoCounter, {"name": "x"}, least_start, NIM, "x", ["y"], "z", limit=1)
        self.refused(NoGoal, {"name": "z"}, least_start, NIM, "turn", ["y"], "z", limit=1)
        self.refused(NoPlayer, {"name": "y"}, least_start, NIM, "turn", ["ann", "y", "x"], "alost", limit=1)
        self.refused(TooLarge, {"limit": 1}, least_start, NIM, "turn", ["ann"], "alost", limit=1)

    def test_too_large_only_before_the_least_start(self):
        # With the start k there are k + 1 positions.
        game = read_game("players p\ncounter a 9 0\ncounter b 9 0\nmove m p do a-1 b+1\ngoal g if b>=3")
        self.assertEqual(least_start(game, "a", ["p"], "g", limit=4), 3)
        self.refused(TooLarge, {"limit": 3}, least_start, game, "a", ["p"], "g", limit=3)
        self.assertEqual(least_start(game, "b", ["p"], "g", limit=1), 3)
        with self.assertRaises(TypeError):
            least_start(game, "a", ["p"], "g", 4)

    def test_the_limit_of_the_interface_is_2000(self):
        game = read_game("players p\ncounter a 200 0\ncounter b 1999 0\nmove m p if a>=1 do b+1\ngoal g if b=1999")
        self.assertEqual(least_start(game, "a", ["p"], "g"), 1)
        more = read_game("players p\ncounter a 200 0\ncounter b 2000 0\nmove m p if a>=1 do b+1\ngoal g if b=2000")
        self.refused(TooLarge, {"limit": 2000}, least_start, more, "a", ["p"], "g")

    def test_random_games(self):
        for game in random_games(73, 30):
            for counter in game.counters:
                for team in TEAMS[:4]:
                    for goal, _ in game.goals:
                        found = None
                        for value in range(game.tops[game.counters.index(counter)], -1, -1):
                            arena = Arena(game.started(counter, value))
                            if 0 in plain_ranks(arena, team, targets_of(arena, goal)):
                                found = value
                        self.assertEqual(least_start(game, counter, team, goal), found)

    def test_a_game_with_a_start_on_target(self):
        game = Game(["p"], [("a", 2, 2)], [], [("g", [])])
        self.assertEqual(least_start(game, "a", [], "g"), 0)


if __name__ == "__main__":
    unittest.main()
