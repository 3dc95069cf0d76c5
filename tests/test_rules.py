"""Points 45 and 46: rules, and cutting them to boxes."""

import random
import unittest

from playhall.askerrors import BadBox, BadRule
from playhall.boxes import Box
from playhall.rules import Rule
from tests.helpers import Checks, random_box, random_rule

WORTHS = [[[1, 2, 3], [-4, 5, 6]], [[0, 0, 1]], [[7, 8, 9], [10, 11, 12], [13, 14, 15]]]
TABLE = [0, 1, 2, 2, 1, 0]


class RuleTest(Checks):
    def test_attributes(self):
        rule = Rule(worths=WORTHS, table=TABLE)
        self.assertEqual((rule.parties, rule.outcomes, rule.sizes), (3, 3, (2, 1, 3)))
        self.assertIsInstance(rule.full, Box)
        self.assertEqual(rule.full.sides, ((0, 1), (0,), (0, 1, 2)))
        self.assertEqual([rule(combination) for combination in rule.full], TABLE)
        self.assertEqual(rule(combination=(1, 0, 0)), 2)
        self.assertEqual(rule.worth(0, 1, 0), -4)
        self.assertEqual(rule.worth(party=2, hand=1, outcome=2), 12)
        self.assertFalse(rule == Rule(WORTHS, TABLE))

    def bad(self, part, worths, table):
        self.refused(BadRule, {"part": part}, Rule, worths, table)

    def test_bad_worths(self):
        for worths in ([], [[]], [[[1]], []], [[[]]], [[[1], [1, 2]]], [[[1, 2]], [[1]]], [[[1], []]], [[["a"]]],
                       [[[True]]], [[[1, False]]], [[[None]]], [[[1]], [[1.0]]], [[[1], [(2,)]]]):
            self.bad("worths", worths, [0])
            self.bad("worths", worths, [-1, "x"])

    def test_bad_tables(self):
        self.bad("table", WORTHS, TABLE[:-1])
        self.bad("table", WORTHS, [*TABLE, 0])
        self.bad("table", WORTHS, [])
        for entry in (-1, 3, True, False, "a", None, 1.0):
            self.bad("table", WORTHS, [entry, *TABLE[1:]])
            self.bad("table", WORTHS, [*TABLE[:-1], entry])
        self.bad("table", [[[1]] * 120] * 8, [0] * 600)

    def test_least_and_large(self):
        self.assertEqual(Rule([[[5]]], [0])((0,)), 0)
        rule = Rule([[[10 ** 40 - 1] * 60 for _ in range(5)], [[0] * 60 for _ in range(120)]], [59] * 600)
        self.assertEqual((rule.sizes, rule((4, 119)), rule.worth(0, 4, 59)), ((5, 120), 59, 10 ** 40 - 1))

    def test_tuples_and_what_is_changed_later(self):
        worths = [[[1, 2], [3, 4]]]
        table = [0, 1]
        rule = Rule(worths, table)
        worths[0][0][1] = 9
        worths[0].append([0, 0])
        table[0] = 1
        self.assertEqual((rule.worth(0, 0, 1), rule((0,)), rule.sizes), (2, 0, (2,)))
        rule = Rule((((1, 2), (3, 4)),), (0, 1))
        self.assertEqual(rule.worth(0, 1, 0), 3)


class CutTest(Checks):
    def test_by_hand(self):
        rule = Rule(WORTHS, TABLE).cut(Box([[1], [0], [2, 0]]))
        self.assertEqual((rule.parties, rule.outcomes, rule.sizes), (3, 3, (1, 1, 2)))
        self.assertEqual([rule(combination) for combination in rule.full], [2, 0])
        self.assertEqual([rule.worth(0, 0, 1), rule.worth(2, 0, 0), rule.worth(2, 1, 2)], [5, 7, 15])

    def test_random(self):
        rng = random.Random(131)
        for _ in range(100):
            rule = random_rule(rng, parties=rng.randint(1, 3))
            box = random_box(rng, rule)
            cut = rule.cut(box=box)
            self.assertEqual((cut.parties, cut.outcomes, cut.sizes),
                             (rule.parties, rule.outcomes, tuple(len(side) for side in box.sides)))
            for combination in cut.full:
                self.assertEqual(cut(combination), rule(tuple(box[party][hand] for party, hand in enumerate(combination))))
            for party, side in enumerate(box.sides):
                for place, hand in enumerate(side):
                    self.assertEqual([cut.worth(party, place, outcome) for outcome in range(3)],
                                     [rule.worth(party, hand, outcome) for outcome in range(3)])

    def test_the_full_box(self):
        rule = Rule(WORTHS, TABLE)
        cut = rule.cut(rule.full)
        self.assertEqual([cut(combination) for combination in cut.full], TABLE)

    def test_refused(self):
        rule = Rule(WORTHS, TABLE)
        for sides in ([[0], [0]], [[0], [0], [0], [0]], [[0], [], [0]], [[], [], []], [[0, 2], [0], [0]], [[0], [0], [3]],
                      [[0], [0, 1], []], [[0], [10 ** 9], [0]]):
            self.refused(BadBox, {}, rule.cut, Box(sides))


if __name__ == "__main__":
    unittest.main()
