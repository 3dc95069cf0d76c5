"""Point 71: rules by which players choose a game."""

import random
import unittest

from playhall.arenas import Arena
from playhall.askerrors import BadRule
from playhall.choices import choice_rule
from playhall.errors import TooLarge
from playhall.gametext import read_game
from playhall.rules import Rule
from tests.helpers import Checks, plain_ranks, random_games


def plain_worth(game, stock, value, player, prize):
    """The greatest value of the prize counter that the player alone forces, if the stock starts with the value."""
    arena = Arena(game.started(stock, value))
    place = game.counters.index(prize)
    values = [position[place] for position in arena.positions]
    return max(worth for worth in values
               if 0 in plain_ranks(arena, [player], [at for at, other in enumerate(values) if other >= worth]))


# Ann and bob turn coins into goods; in the second game bob may take what ann has.
CALM = read_game("players ann bob\ncounter coina 3 0\ncounter coinb 3 0\ncounter gooda 9 0\ncounter goodb 9 0\n"
                 "move abuy ann do coina-1 gooda+2\nmove bbuy bob do coinb-1 goodb+1")
WILD = read_game("players ann bob\ncounter coinb 3 0\ncounter goodb 9 0\ncounter coina 3 0\ncounter gooda 9 1\ncounter dice 1 0\n"
                 "move abuy ann do coina-1 gooda+1\nmove btake bob if gooda>=1 do gooda-1 goodb+1\nmove bbuy bob do coinb-2 goodb+5")


class ChoiceTest(Checks):
    def judge(self, games, stocks, prizes, hands, table):
        rule = choice_rule(games, stocks, prizes, hands, table)
        self.assertIsInstance(rule, Rule)
        self.assertEqual((rule.parties, rule.outcomes, rule.sizes), (len(games[0].players), len(games), tuple(map(len, hands))))
        for party, player in enumerate(games[0].players):
            for hand, value in enumerate(hands[party]):
                for outcome, game in enumerate(games):
                    self.assertEqual(rule.worth(party, hand, outcome), plain_worth(game, stocks[party], value, player, prizes[party]))
        self.assertEqual([rule(combination) for combination in rule.full], list(table))
        return rule

    def test_by_hand(self):
        rule = self.judge([CALM, WILD], ["coina", "coinb"], ["gooda", "goodb"], [[0, 3], [0, 2, 1]], [0, 1, 0, 1, 1, 0])
        self.assertEqual([[rule.worth(0, hand, game) for game in (0, 1)] for hand in (0, 1)], [[0, 1], [6, 1]])
        self.assertEqual([[rule.worth(1, hand, game) for game in (0, 1)] for hand in (0, 1, 2)], [[0, 1], [2, 6], [1, 1]])

    def test_by_name_and_with_tuples(self):
        rule = choice_rule(games=(CALM,), stocks=("coina", "coinb"), prizes=("gooda", "gooda"), hands=((2,), (3, 1)), table=(0, 0))
        self.assertEqual([rule.worth(0, 0, 0), rule.worth(1, 0, 0), rule.worth(1, 1, 0)], [4, 0, 0])

    def test_random_games(self):
        rng = random.Random(391)
        several = {}
        for _ in range(25):
            games = random_games(rng.randint(0, 10 ** 6), rng.randint(1, 3), counters=3, moves=4, players=("ann", "bob", "cid")[:rng.randint(2, 3)])
            games = [game for game in games if game.players == games[0].players]
            tops = {label: min(dict(zip(game.counters, game.tops))[label] for game in games) for label in games[0].counters}
            players = games[0].players
            stocks = [rng.choice(games[0].counters) for _ in players]
            hands = [[rng.randint(0, tops[stock]) for _ in range(rng.randint(1, 3))] for stock in stocks]
            count = 1
            for side in hands:
                count *= len(side)
            table = [rng.randrange(len(games)) for _ in range(count)]
            kept = (list(games), list(stocks), [list(side) for side in hands], list(table))
            self.judge(games, stocks, [rng.choice(games[0].counters) for _ in players], hands, table)
            self.assertEqual((games, stocks, hands, table), kept)
            several[len(games)] = True
        self.assertGreater(len(several), 1)

    def test_bad_rules(self):
        for part, hands, table in (
                ("table", [[0], [0]], []), ("table", [[0], [0]], [0, 0]), ("table", [[0], [0]], [2]), ("table", [[0], [0]], [-1]),
                ("table", [[0, 1], [0]], [0]), ("worths", [[], [0]], [0]), ("worths", [[0], []], [])):
            self.refused(BadRule, {"part": part}, choice_rule, [CALM, WILD], ["coina", "coinb"], ["gooda", "goodb"], hands, table)

    def test_too_large_before_bad_rules(self):
        # With a start of n there are n + 1 positions.
        game = read_game("players ann\ncounter a 5000 0\ncounter b 5000 0\nmove turn ann do a-1 b+1")
        self.assertEqual(choice_rule([game], ["a"], ["b"], [[0, 1999]], [0, 0]).worth(0, 1, 0), 1999)
        self.refused(TooLarge, {"limit": 2000}, choice_rule, [game], ["a"], ["b"], [[0, 2000]], [0, 0])
        self.refused(TooLarge, {"limit": 2000}, choice_rule, [game], ["a"], ["b"], [[2000]], [7])


if __name__ == "__main__":
    unittest.main()
