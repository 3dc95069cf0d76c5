"""Points 50 to 52: how trees do for rules."""

import random
import unittest

from playhall.askerrors import BadAnswer
from playhall.boxes import Box
from playhall.judging import box_at, first_wrong, fits, lures, parting
from playhall.rules import Rule
from playhall.ties import floor, groups, promise
from playhall.trees import Tree
from tests.helpers import Checks, chain_form, constant, random_box, random_form, random_rule, right_form

END = ("end", 0)


def plain_path(form, combination):
    """The path to which honest answers lead, with the forms on the way."""
    path, way = (), [form]
    while form[0] == "ask":
        branch = [at for at, (cell, _) in enumerate(form[2]) if combination[form[1]] in cell][0]
        path, form = (*path, branch), form[2][branch][1]
        way.append(form)
    return path, way


def questions(form, path=()):
    """The paths and forms of all questions, ascending."""
    found = []
    if form[0] == "ask":
        found.append((path, form))
        for branch, (_, part) in enumerate(form[2]):
            found.extend(questions(part, (*path, branch)))
    return found


def plain_form(rule, box):
    """The form of a plain tree for the rule in the box, or None."""
    if constant(rule, box):
        return ("end", rule(list(box)[0]))
    for party in range(rule.parties):
        cells = groups(rule, box, party)
        if len(cells) > 1:
            parts = [plain_form(rule, box.with_side(party, cell)) for cell in cells]
            return None if None in parts else ("ask", party, tuple(zip(cells, parts)))
    return None


class BoxAtTest(Checks):
    def test_random(self):
        rng = random.Random(161)
        for _ in range(100):
            rule = random_rule(rng, parties=3, hands=4)
            tree = Tree(random_form(rng, rule, rule.full))
            for path, _ in [*questions(tree.form), *tree.ends()]:
                led = [combination for combination in rule.full if plain_path(tree.form, combination)[0][:len(path)] == path]
                box = box_at(rule, tree, path)
                self.assertIsInstance(box, Box)
                self.assertEqual(list(box), led)

    def test_no_place(self):
        rule = Rule([[[0]] * 5, [[0]] * 2], [0] * 10)
        tree = Tree(chain_form(4))
        self.assertEqual(box_at(rule=rule, tree=tree, path=()).sides, rule.full.sides)
        self.assertEqual(box_at(rule, tree, (1, 1, 0)).sides, ((2,), (0, 1)))
        for path, part in (((2,), ()), ((-1,), ()), ((0, 0), (0,)), ((1, 1, 2, 0), (1, 1)), ((1, 1, 1, 1, 0), (1, 1, 1, 1)),
                           ((1, 0, 1, 1), (1, 0)), ((1, -2), (1,))):
            self.refused(BadAnswer, {"path": part}, box_at, rule, tree, path)
            self.refused(BadAnswer, {"path": part}, box_at, rule, tree, list(path))
        self.refused(BadAnswer, {"path": ()}, box_at, rule, Tree(END), (0,))


class FitsTest(unittest.TestCase):
    def test_random(self):
        rng = random.Random(162)
        for _ in range(100):
            rule = random_rule(rng, parties=3, hands=4)
            tree = Tree(random_form(rng, rule, rule.full))
            self.assertIs(fits(rule, tree), True)
            other = random_rule(rng, parties=3, hands=4)
            expected = all(
                form[1] < other.parties and sorted(hand for cell, _ in form[2] for hand in cell) == list(box[form[1]])
                for path, form in questions(tree.form) for box in [plain_box(other, tree, path)])
            self.assertIs(fits(other, tree), expected)

    def test_by_hand(self):
        rule = Rule([[[0]] * 3, [[0]] * 2], [0] * 6)
        self.assertTrue(fits(rule=rule, tree=Tree(END)))
        self.assertTrue(fits(rule, Tree(("end", 9))))
        full = ("ask", 1, [([0], END), ([1], END)])
        self.assertTrue(fits(rule, Tree(("ask", 0, [([0], full), ([1, 2], END)]))))
        # A party too many, hands missing, hands too many, at the root and behind it.
        for bad in (("ask", 2, [([0], END), ([1], END)]), ("ask", 1, [([0], END), ([1, 2], END)]),
                    ("ask", 0, [([0], END), ([1], END)]), ("ask", 0, [([0], END), ([1, 2, 3], END)]),
                    ("ask", 0, [([0], END), ([1], END), ([3], END)])):
            self.assertIs(fits(rule, Tree(bad)), False)
            self.assertFalse(fits(rule, Tree(("ask", 1, [([0], END), ([1], bad)]))))
        # Hands that the party had at the root, but not here.
        again = ("ask", 0, [([0], END), ([1, 2], END)])
        self.assertFalse(fits(rule, Tree(("ask", 0, [([0, 1], again), ([2], END)]))))
        self.assertTrue(fits(rule, Tree(("ask", 0, [([1, 2], ("ask", 0, [([1], END), ([2], END)])), ([0], END)]))))


def plain_box(rule, tree, path):
    """The box at a path, as a list of sides, also for trees that do not fit."""
    sides = [list(range(size)) for size in rule.sizes]
    form = tree.form
    for branch in path:
        if form[1] < len(sides):
            sides[form[1]] = [hand for hand in form[2][branch][0] if hand in sides[form[1]]]
        form = form[2][branch][1]
    return sides


class FirstWrongTest(unittest.TestCase):
    def test_random(self):
        rng = random.Random(163)
        for _ in range(100):
            rule = random_rule(rng, parties=2, hands=4)
            tree = Tree(random_form(rng, rule, rule.full))
            wrong = [combination for combination in rule.full
                     if plain_path(tree.form, combination)[1][-1][1] != rule(combination)]
            self.assertEqual(first_wrong(rule, tree), wrong[0] if wrong else None)
            self.assertIsNone(first_wrong(rule, Tree(right_form(rng, rule, rule.full))))

    def test_by_hand(self):
        rule = Rule([[[0, 0]] * 2, [[0, 0]] * 2], [0, 1, 1, 0])
        self.assertEqual(first_wrong(rule=rule, tree=Tree(END)), (0, 1))
        self.assertEqual(first_wrong(rule, Tree(("ask", 1, [([0], END), ([1], ("end", 1))]))), (1, 0))
        self.assertEqual(first_wrong(rule, Tree(("end", 5))), (0, 0))


class LuresTest(unittest.TestCase):
    def expected(self, rule, tree):
        found = []
        for path, form in questions(tree.form):
            box = box_at(rule, tree, path)
            for hand in box[form[1]]:
                cell = [cell for cell, _ in form[2] if hand in cell][0]
                least, most = floor(rule, box, form[1], hand), promise(rule, box, form[1], hand, cell)
                if least < most:
                    found.append((path, hand, least, most))
        return found

    def test_random(self):
        rng = random.Random(164)
        many = 0
        for _ in range(150):
            rule = random_rule(rng, parties=3, hands=4)
            tree = Tree(random_form(rng, rule, rule.full))
            found = lures(rule, tree)
            self.assertEqual(found, self.expected(rule, tree))
            many += len(found) > 2
        self.assertGreater(many, 50)

    def test_none_exactly_for_plain_trees(self):
        rng = random.Random(165)
        plain = 0
        for _ in range(300):
            rule = random_rule(rng, parties=2, hands=3, outcomes=2, top=1)
            form = plain_form(rule, rule.full)
            if form is not None:
                self.assertEqual(lures(rule, Tree(form)), [])
                self.assertIsNone(first_wrong(rule, Tree(form)))
                plain += form[0] == "ask"
            tree = Tree(right_form(rng, rule, rule.full))
            is_plain = all(
                any(set(group) <= set(cell) for cell, _ in asked[2])
                for path, asked in questions(tree.form) for group in groups(rule, box_at(rule, tree, path), asked[1]))
            self.assertEqual(lures(rule, tree) == [], is_plain)
        self.assertGreater(plain, 30)

    def test_order_and_values(self):
        rule = Rule([[[0, 9], [0, 9], [0, 9]]], [1, 0, 0])
        tree = Tree(("ask", 0, [([2, 1], ("ask", 0, [([2], END), ([1], END)])), ([0], ("end", 1))]))
        self.assertEqual(lures(rule, tree), [((), 1, 0, 9), ((), 2, 0, 9)])
        rule = Rule([[[0, 9], [9, 0]], [[3, 4], [3, 4]]], [0, 1, 1, 0])
        tree = Tree(("ask", 0, [([1], ("ask", 1, [([1], END), ([0], ("end", 1))])), ([0], ("ask", 1, [([0], END), ([1], ("end", 1))]))]))
        self.assertEqual(lures(rule=rule, tree=tree), [((), 0, 0, 9), ((), 1, 0, 9), ((0,), 1, 3, 4), ((1,), 0, 3, 4)])
        self.assertEqual(lures(rule, Tree(END)), [])

    def test_great_trees(self):
        rng = random.Random(166)
        rule = Rule([[[rng.randint(0, 9) for _ in range(60)] for _ in range(101)], [[0] * 60] * 5],
                    [rng.randrange(60) for _ in range(505)])
        tree = Tree(chain_form(100))
        self.assertTrue(fits(rule, tree))
        self.assertGreater(len(lures(rule, tree)), 1000)


class PartingTest(unittest.TestCase):
    def test_random(self):
        rng = random.Random(167)
        found = {True: 0, False: 0}
        for _ in range(300):
            rule = random_rule(rng, parties=2, hands=4)
            tree = Tree(random_form(rng, rule, rule.full))
            box = random_box(rng, rule)
            path = parting(box, tree)
            ways = [plain_path(tree.form, combination)[0] for combination in box]
            shared = ways[0]
            while any(way[:len(shared)] != shared for way in ways):
                shared = shared[:-1]
            # All combinations of the box go together up to the parting question.
            if path is None:
                self.assertEqual(set(ways), {shared})
                self.assertIn(shared, [path for path, _ in tree.ends()])
            else:
                self.assertEqual(path, shared)
            found[path is None] += 1
        self.assertGreater(min(found.values()), 50)

    def test_by_hand(self):
        tree = Tree(chain_form(4))
        self.assertEqual(parting(Box([[3, 4], [0]]), tree), (1, 1, 1))
        self.assertEqual(parting(box=Box([[0, 4], [0, 1]]), tree=tree), ())
        self.assertIsNone(parting(Box([[2], [0, 1]]), tree))
        self.assertIsNone(parting(Box([[0, 1]]), Tree(END)))

    def test_stuck_boxes(self):
        rng = random.Random(168)
        stuck = 0
        for _ in range(200):
            rule = random_rule(rng, parties=2, hands=3)
            box = random_box(rng, rule)
            if len(list(box)) > 1 and all(len(groups(rule, box, party)) == 1 for party in range(2)) and not constant(rule, box):
                tree = Tree(right_form(rng, rule, rule.full))
                path = parting(box, tree)
                self.assertIsNotNone(path)
                self.assertIn(path, [lure[0] for lure in lures(rule, tree)])
                stuck += 1
        self.assertGreater(stuck, 20)


if __name__ == "__main__":
    unittest.main()
