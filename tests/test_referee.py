"""Points 31 to 33: signs, reports, the lag, doubts, and the referee."""

import unittest

from playhall.arenas import Arena
from playhall.errors import Impossible, NoMove
from playhall.gametext import read_game
from playhall.referee import Referee, doubt, endless_doubt, lag, report, signs_of
from tests.helpers import NIM, Checks, all_plays, end, has_foul, plain_lag, random_games, shown, spread, step

# A cheat that shows the sign of a fine move, and what comes behind it.
TURN = "\n".join([
    "players p", "counter at 9 0", "move fine p if at=0 do at+1 show s", "move cheat p if at=0 do at+2 show s foul"])
LAGS = {
    0: read_game(TURN.replace("show s foul", "show t foul")),
    1: read_game(TURN + "\nmove left p if at=1 do at+3 show x\nmove right p if at=2 do at+3 show y"),
    2: read_game(TURN + "\nmove left p if at=1 do at+3 show x\nmove right p if at=2 do at+3 show x\n"
                        "move then p if at=5 do at+1 show z"),
    4: read_game(TURN + "\nmove quiet p if at>=2 at<=4 do at+1"),
    None: read_game(TURN + "\nmove left p if at=1 show x\nmove right p if at=2 do at+1 show x\n"
                           "move again p if at=3 do at-1 show x"),
}
SILENT = read_game("players p\ncounter a 1 0\nmove cheat p if a=0 do a+1 foul\nmove round p if a=1")


def verdict(game, signs):
    """The report, by all positions in which a play with these signs may be."""
    def silent(state):
        return [(place, state[1] or move.foul) for move in game.moves if move.sign is None
                for place in [step(game, state[0], move.name)] if place is not None]

    states = spread([(game.start, False)], silent)
    for sign in signs:
        behind = [(step(game, place, move.name), foul or move.foul)
                  for place, foul in states for move in game.moves if move.sign == sign]
        states = spread([state for state in behind if state[0] is not None], silent)
    return (any(not foul for _, foul in states), any(foul for _, foul in states))


class SignsTest(Checks):
    def test_signs_of(self):
        self.assertEqual(signs_of(LAGS[4], ["cheat", "quiet", "fine", "quiet", "cheat"]), ["s", "s", "s"])
        self.assertEqual(signs_of(NIM, ["aone", "btwo"]), [])
        self.assertEqual(signs_of(game=NIM, play=()), [])

    def test_names_that_are_no_moves(self):
        self.refused(NoMove, {"name": "no"}, signs_of, LAGS[4], ["cheat", "no", "never"])
        self.refused(NoMove, {"name": "s"}, signs_of, LAGS[4], ("s",))


class ReportTest(unittest.TestCase):
    def test_by_hand(self):
        arena = Arena(LAGS[1])
        self.assertEqual(report(arena, []), (True, False))
        self.assertEqual(report(arena, ["s"]), (True, True))
        self.assertEqual(report(arena, ["s", "x"]), (True, False))
        self.assertEqual(report(arena, ("s", "y")), (False, True))
        self.assertEqual(report(arena=arena, signs=["y"]), (False, False))
        self.assertEqual(report(arena, ["no.move", "s"]), (False, False))
        self.assertEqual(report(Arena(SILENT), []), (True, True))
        self.assertEqual(report(Arena(read_game("players p")), []), (True, False))

    def test_random_games(self):
        for game in random_games(21, 120, moves=5):
            arena = Arena(game)
            plays = all_plays(game, game.start, 3)
            for play, _ in plays:
                self.assertTrue(report(arena, shown(game, play))[has_foul(game, play)])
            for signs in ([], ["s"], ["t"], ["s", "s"], ["s", "t"], ["t", "s", "s"], ["z"], ["t", "t", "t", "t"]):
                self.assertEqual(report(arena, signs), verdict(game, signs))

    def test_400_signs(self):
        arena = Arena(LAGS[None])
        signs = ["s"] + ["x"] * 399
        self.assertEqual(report(arena, signs), (True, True))
        self.assertEqual(report(arena, [*signs[:-1], "s"]), (False, False))
        self.assertEqual(len(signs), 400)


class LagTest(unittest.TestCase):
    def judge_doubt(self, game):
        """Judges what is told of a game with a lag by the words of point 33."""
        arena = Arena(game)
        found = lag(arena)
        self.assertIsNone(endless_doubt(arena))
        if found == 0:
            self.assertIsNone(doubt(arena))
            return
        first, second = doubt(arena)
        self.assertIsNotNone(end(game, game.start, first))
        self.assertIsNotNone(end(game, game.start, second))
        fouls = [at for at, name in enumerate(first) if game.move(name).foul]
        self.assertEqual(len(first) - fouls[0] - 1, found - 1)
        self.assertFalse(has_foul(game, second))
        self.assertEqual(shown(game, first), shown(game, second))

    def judge_endless(self, game):
        """Judges an endless doubt by the words of point 33."""
        arena = Arena(game)
        self.assertIsNone(lag(arena))
        self.assertIsNone(doubt(arena))
        first, first_round, second, second_round = endless_doubt(arena)
        place = end(game, game.start, first)
        self.assertIsNotNone(place)
        self.assertTrue(has_foul(game, first))
        self.assertGreater(len(first_round), 0)
        self.assertEqual(end(game, place, first_round), place)
        other = end(game, game.start, second)
        self.assertIsNotNone(other)
        self.assertEqual(end(game, other, second_round), other)
        self.assertFalse(has_foul(game, second + second_round))
        self.assertEqual(shown(game, first), shown(game, second))
        self.assertEqual(shown(game, first_round), shown(game, second_round))

    def test_by_hand(self):
        for number, game in LAGS.items():
            self.assertEqual(lag(Arena(game)), number)
            self.assertEqual(plain_lag(game), number)
        self.assertEqual(doubt(Arena(LAGS[1])), (["cheat"], ["fine"]))
        self.assertEqual(doubt(arena=Arena(LAGS[2])), (["cheat", "right"], ["fine", "left"]))
        self.assertEqual(doubt(Arena(LAGS[4])), (["cheat", "quiet", "quiet", "quiet"], ["fine"]))
        for number in (0, 1, 2, 4):
            self.judge_doubt(LAGS[number])
        self.judge_endless(LAGS[None])

    def test_without_fouls(self):
        for game in (NIM, read_game("players p")):
            self.assertEqual(lag(arena=Arena(game)), 0)
            self.judge_doubt(game)

    def test_a_pair_that_clean_plays_reach_too(self):
        game = read_game("players p\ncounter a 1 0\nmove fine p do a+1 show s\nmove cheat p do a+1 show s foul")
        self.assertEqual(doubt(Arena(game)), (["cheat"], ["fine"]))
        game = read_game("players p\nmove fine p show s\nmove cheat p show s foul")
        self.judge_endless(game)

    def test_a_second_round_that_is_empty(self):
        self.judge_endless(SILENT)
        self.assertEqual(endless_doubt(arena=Arena(SILENT)), (["cheat"], ["round"], [], []))

    def test_random_games(self):
        seen = {}
        for kinds in ({"moves": 5, "top": 3}, {"moves": 6, "top": 2, "counters": 3}):
            for game in random_games(22, 200, **kinds):
                found = lag(Arena(game))
                self.assertEqual(found, plain_lag(game))
                seen[found] = seen.get(found, 0) + 1
                if found is None:
                    self.judge_endless(game)
                else:
                    self.judge_doubt(game)
        self.assertGreater(min(seen[0], seen[1], seen[2], seen[None]), 4, seen)

    def test_each_play_behind_the_lag_is_exposed(self):
        for game in random_games(23, 80, moves=4):
            found = lag(Arena(game))
            if found is not None:
                for play, _ in all_plays(game, game.start, 4):
                    fouls = [at for at, name in enumerate(play) if game.move(name).foul]
                    if fouls and len(play) - fouls[0] - 1 >= found:
                        self.assertFalse(verdict(game, shown(game, play))[0])


class RefereeTest(Checks):
    def test_signs_and_reports(self):
        referee = Referee(Arena(LAGS[1]))
        self.assertEqual((referee.signs, referee.report), ([], (True, False)))
        self.assertEqual(referee.see("s"), (True, True))
        self.assertEqual(referee.see(sign="y"), (False, True))
        self.assertEqual((referee.signs, referee.report), (["s", "y"], (False, True)))

    def test_impossible_changes_nothing(self):
        referee = Referee(arena=Arena(LAGS[1]))
        self.refused(Impossible, {"sign": "x"}, referee.see, "x")
        referee.see("s")
        for sign in ("s", "nothing", "a.b"):
            self.refused(Impossible, {"sign": sign}, referee.see, sign)
            self.assertEqual((referee.signs, referee.report), (["s"], (True, True)))
        self.assertEqual(referee.see("x"), (True, False))

    def test_two_referees_side_by_side(self):
        arena = Arena(LAGS[1])
        one, other = Referee(arena), Referee(arena)
        one.see("s")
        self.assertEqual((other.signs, other.report), ([], (True, False)))
        other.see("s")
        other.see("y")
        self.assertEqual(one.see("x"), (True, False))
        self.assertEqual((one.signs, other.signs), (["s", "x"], ["s", "y"]))
        self.assertNotEqual(one, other)

    def test_lists_are_new(self):
        referee = Referee(Arena(LAGS[1]))
        referee.see("s")
        referee.signs.append("t")
        self.assertEqual(referee.signs, ["s"])
        self.assertIsNot(referee.signs, referee.signs)

    def test_as_report_in_random_games(self):
        for game in random_games(24, 60, moves=5):
            arena = Arena(game)
            referee = Referee(arena)
            self.assertEqual(referee.report, verdict(game, []))
            for sign in ["s", "t", "t", "s", "u"]:
                expected = verdict(game, [*referee.signs, sign])
                if any(expected):
                    self.assertEqual(referee.see(sign), expected)
                else:
                    self.refused(Impossible, {"sign": sign}, referee.see, sign)


if __name__ == "__main__":
    unittest.main()
