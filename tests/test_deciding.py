"""Points 51 and 52: how many questions are due, shortest trees, and stuck boxes."""

import random
import unittest
from itertools import product

from playhall.boxes import Box
from playhall.deciding import MOST_QUESTIONS, questions_due, shortest_tree, stuck_box
from playhall.judging import first_wrong, fits, lures, parting
from playhall.rules import Rule
from playhall.ties import groups
from playhall.trees import Tree
from tests.helpers import is_plain_question, plain_due, plain_rule, random_box, random_rule

END = ("end", 0)


def same(sizes, outcome=1):
    """A rule whose combinations all have one outcome, though others are worth more."""
    many = 1
    for size in sizes:
        many *= size
    return Rule([[[hand, 0, 5 - hand] for hand in range(size)] for size in sizes], [outcome] * many)


def indifferent(rng, sizes, outcomes=2):
    """A rule in which nobody cares, so that every question is plain."""
    table = [rng.randrange(outcomes) for _ in product(*[range(size) for size in sizes])]
    return Rule([[[0] * outcomes for _ in range(size)] for size in sizes], table)


def small_rules(seed, count):
    """Random rules; in some of them nearly every question is plain, in others nearly none."""
    rng = random.Random(seed)
    for _ in range(count):
        kind = rng.randrange(3)
        if kind == 0:
            yield rng, plain_rule(rng, [rng.randint(1, 3), rng.randint(1, 4), rng.randint(1, 2)], rng.randint(1, 7))
        else:
            yield rng, random_rule(rng, parties=rng.randint(1, 3), hands=3, top=kind)


def is_stuck(rule, sides):
    """Whether the box is stuck, by the words of point 52: no question in it is plain, though one can be asked."""
    def bound(party, side):
        # The hands that hang together with the first one.
        found = [side[0]]
        for hand in found:
            for other in side:
                if other not in found and any(
                        rule.worth(party, own[party], rule(own)) < rule.worth(party, own[party], rule(told))
                        for own in product(*sides) for told in product(*sides)
                        if {own[party], told[party]} == {hand, other}):
                    found.append(other)
        return len(found) == len(side)

    return any(len(side) > 1 for side in sides) and all(bound(party, side) for party, side in enumerate(sides))


class DecidingTest(unittest.TestCase):
    def judge_tree(self, rule, tree, due):
        """Judges a shortest tree by what it does for the rule, and by its length."""
        self.assertIsInstance(tree, Tree)
        self.assertTrue(fits(rule, tree))
        self.assertIsNone(first_wrong(rule, tree))
        self.assertEqual(lures(rule, tree), [])
        self.assertEqual(tree.length, due)
        waiting = [(tree.form, rule.full.sides)]
        for form, sides in waiting:
            if form[0] == "ask":
                cells = [cell for cell, _ in form[2]]
                self.assertTrue(is_plain_question(rule, sides, form[1], cells))
                self.assertEqual(sorted(cells, key=min), cells)
                for cell, part in form[2]:
                    waiting.append((part, (*sides[:form[1]], cell, *sides[form[1] + 1:])))

    def judge_stuck(self, rule, box):
        self.assertIsInstance(box, Box)
        self.assertTrue(box.within(rule.full))
        self.assertGreater(len(list(box)), 1)
        self.assertTrue(any(len(side) > 1 for side in box.sides))
        self.assertTrue(is_stuck(rule, box.sides))
        for party in range(rule.parties):
            self.assertEqual(groups(rule, box, party), [box[party]])

    def test_small_rules_against_all_trees(self):
        seen = {}
        for rng, rule in small_rules(211, 250):
            due = plain_due(rule, rule.full.sides)
            self.assertEqual(questions_due(rule, rule.full), due)
            tree, box = shortest_tree(rule), stuck_box(rule)
            self.assertEqual((tree is None, box is None), (due is None, due is not None))
            if due is None:
                self.judge_stuck(rule, box)
                self.assertIsNone(shortest_tree(rule, most=7))
            else:
                self.judge_tree(rule, tree, due)
                self.assertIsNone(shortest_tree(rule, most=due - 1))
                self.judge_tree(rule, shortest_tree(rule, most=due), due)
                self.judge_tree(rule, shortest_tree(rule, most=due + 1), due)
            part = random_box(rng, rule)
            found = questions_due(rule=rule, box=part)
            self.assertEqual(found, plain_due(rule, part.sides))
            self.assertEqual(found, questions_due(rule.cut(part), rule.cut(part).full))
            if due is not None:
                self.assertLessEqual(found, due)
            seen[due] = seen.get(due, 0) + 1
        self.assertGreater(seen[None], 50)
        self.assertGreater(min(seen.get(due, 0) for due in (0, 1, 2, 3)), 3)

    def test_one_outcome(self):
        for sizes in ([1], [4], [2, 3], [1, 1, 1], [3, 1, 2]):
            rule = same(sizes)
            self.assertEqual(questions_due(rule, rule.full), 0)
            self.assertEqual(shortest_tree(rule).form, ("end", 1))
            self.assertEqual(shortest_tree(rule, most=0).form, ("end", 1))
            self.assertIsNone(stuck_box(rule))

    def test_boxes_with_one_hand_in_each_side(self):
        rng = random.Random(212)
        for _ in range(20):
            rule = random_rule(rng, parties=3)
            box = Box([[rng.choice(side)] for side in rule.full.sides])
            self.assertEqual(questions_due(rule, box), 0)

    def test_a_limit(self):
        self.assertEqual(MOST_QUESTIONS, 100)
        rule = Rule([[[0, 0], [0, 0]]], [0, 1])
        self.assertIsNone(shortest_tree(rule, most=0))
        self.assertEqual(shortest_tree(rule=rule, most=1).form, ("ask", 0, (((0,), END), ((1,), ("end", 1)))))
        self.assertIsNone(stuck_box(rule))
        self.assertEqual(questions_due(rule, rule.full), 1)

    def test_questions_that_must_be_asked_one_after_another(self):
        for first, second in ((2, 2), (3, 2), (3, 4), (24, 25), (60, 10)):
            rule = leaving(first, second)
            due = 2 * (first - 1) if first <= second else 2 * second - 1
            self.assertEqual(questions_due(rule, rule.full), due)
            self.judge_tree(rule, shortest_tree(rule), due)
            self.assertIsNone(shortest_tree(rule, most=due - 1))
            self.assertIsNone(stuck_box(rule))
            if first < 4:
                self.assertEqual(plain_due(rule, rule.full.sides), due)

    def test_the_party_that_is_asked_first_counts(self):
        # Nobody cares. One party tells which of the others must be asked.
        for asked in range(3):
            first, second = [party for party in range(3) if party != asked]
            table = [combination[second if combination[asked] else first] for combination in product(range(2), repeat=3)]
            rule = Rule([[[0, 0], [0, 0]]] * 3, table)
            self.assertEqual((questions_due(rule, rule.full), plain_due(rule, rule.full.sides)), (2, 2))
            tree = shortest_tree(rule)
            self.judge_tree(rule, tree, 2)
            self.assertEqual(tree.form[1], asked)
            self.assertIsNone(shortest_tree(rule, most=1))
        rng = random.Random(216)
        seen = {}
        for _ in range(60):
            rule = indifferent(rng, [rng.randint(1, 3) for _ in range(4)])
            due = plain_due(rule, rule.full.sides)
            self.judge_tree(rule, shortest_tree(rule), due)
            seen[due] = True
        self.assertGreater(len(seen), 3)

    def test_by_hand_a_stuck_rule(self):
        # The outcome is the hand that the other one told, and everybody wants the own one.
        rule = Rule([[[1, 0], [0, 1]], [[1, 0], [0, 1]]], [0, 1, 1, 0])
        self.assertIsNone(shortest_tree(rule))
        self.assertIsNone(questions_due(rule, rule.full))
        self.assertEqual(stuck_box(rule=rule).sides, ((0, 1), (0, 1)))
        self.assertEqual(questions_due(rule, Box([[0], [0, 1]])), 1)
        self.assertEqual(questions_due(rule, Box([[0], [1]])), 0)

    def test_a_stuck_box_has_a_parting_question_that_is_not_plain(self):
        rng = random.Random(213)
        found = 0
        for _ in range(60):
            rule = random_rule(rng, parties=2, hands=3, top=2)
            box = stuck_box(rule)
            if box is not None:
                tree = Tree(asked_wholly(rule, rule.full.sides, 0))
                self.assertIsNone(first_wrong(rule, tree))
                path = parting(box, tree)
                self.assertIn(path, [lure[0] for lure in lures(rule, tree)])
                found += 1
        self.assertGreater(found, 10)

    def test_large_rules(self):
        rng = random.Random(214)
        for sizes, count in (((24, 25), 60), ((120, 5), 60), ((5, 120), 40), ((8, 8, 9), 60), ((3, 3, 3, 3, 3, 2), 60),
                             ((2,) * 8, 60), ((1, 120, 1, 5, 1, 1, 1, 1), 60)):
            rule = plain_rule(rng, sizes, count)
            due = questions_due(rule, rule.full)
            self.judge_tree(rule, shortest_tree(rule), due)
            self.assertIsNone(stuck_box(rule))
            self.assertIsNone(shortest_tree(rule, most=due - 1))
            free = indifferent(rng, sizes)
            tree = shortest_tree(free)
            self.assertEqual((tree.length, first_wrong(free, tree)), (questions_due(free, free.full), None))
            worths = [[[rng.randint(-10 ** 12, 10 ** 12) for _ in range(60)] for _ in range(size)] for size in sizes]
            table = [rng.randrange(60) for _ in free.full]
            stuck = stuck_box(Rule(worths, table))
            self.assertIsNotNone(stuck)
            self.assertTrue(all(len(groups(Rule(worths, table), stuck, party)) == 1 for party in range(len(sizes))))

    def test_the_rule_and_the_box_stay_as_they_are(self):
        rng = random.Random(215)
        rule = plain_rule(rng, [3, 3], 6)
        before = [rule(combination) for combination in rule.full]
        box = Box([[0, 2], [1]])
        questions_due(rule, box)
        shortest_tree(rule)
        self.assertEqual(([rule(combination) for combination in rule.full], box.sides), (before, ((0, 2), (1,))))
        self.assertIsNot(shortest_tree(rule), shortest_tree(rule))


def leaving(first, second):
    """A rule for two parties, where at each question one of them leaves with its least hand that is possible. The
    later somebody leaves the better for both, up to the own hand; what comes behind it is worth nothing."""
    def outcome(own, other):
        return 2 * own if own <= other else 2 * other + 1

    table = [outcome(own, other) for own, other in product(range(first), range(second))]
    sizes = (first, second)
    worths = [[[late if late <= 2 * hand + party else 0 for late in range(max(table) + 1)] for hand in range(sizes[party])]
              for party in range(2)]
    return Rule(worths, table)


def asked_wholly(rule, sides, party):
    """The form of the tree that asks each party for its hand, one after another."""
    if party == rule.parties:
        return ("end", rule(tuple(side[0] for side in sides)))
    parts = [asked_wholly(rule, (*sides[:party], (hand,), *sides[party + 1:]), party + 1) for hand in sides[party]]
    if len(parts) == 1:
        return parts[0]
    return ("ask", party, tuple(((hand,), part) for hand, part in zip(sides[party], parts)))


if __name__ == "__main__":
    unittest.main()
