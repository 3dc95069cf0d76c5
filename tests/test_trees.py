"""Points 49 to 51: trees."""

import inspect
import random
import unittest

from playhall.askerrors import BadAnswer, BadTree
from playhall.boxes import Box
from playhall.trees import Tree
from tests.helpers import Checks, chain_form, random_box, random_form, random_rule

END = ("end", 0)
LISTS = ["ask", 1, [[[3, 1], ["end", 4]], [[2], ["ask", 0, [[[0], ["end", 1]], [[2, 1], ["end", 0]]]]]]]
TUPLES = ("ask", 1, (((1, 3), ("end", 4)), ((2,), ("ask", 0, (((0,), ("end", 1)), ((1, 2), ("end", 0)))))))


def ask(*cells):
    return ("ask", 0, [(cell, END) for cell in cells])


def inner(form):
    """A tree with the form behind its second branch."""
    return ("ask", 0, [([0], END), ([1], form), ([2], END)])


def plain_form(form):
    if form[0] == "end":
        return ("end", form[1])
    return ("ask", form[1], tuple((tuple(sorted(cell)), plain_form(part)) for cell, part in form[2]))


def plain_length(form):
    return 0 if form[0] == "end" else 1 + max(plain_length(part) for _, part in form[2])


def plain_ends(form, path=()):
    if form[0] == "end":
        return [(path, form[1])]
    return [found for branch, (_, part) in enumerate(form[2]) for found in plain_ends(part, (*path, branch))]


def answered(form, combination):
    while form[0] == "ask":
        form = [part for cell, part in form[2] if combination[form[1]] in cell][0]
    return form[1]


def plain_cut(form, box):
    if form[0] == "end":
        return form
    side = box[form[1]]
    branches = [(tuple(side.index(hand) for hand in cell if hand in side), part) for cell, part in form[2]]
    kept = [(cell, plain_cut(part, box)) for cell, part in branches if cell]
    return kept[0][1] if len(kept) == 1 else ("ask", form[1], tuple(kept))


class TreeTest(Checks):
    def test_forms(self):
        for form in (LISTS, TUPLES):
            tree = Tree(form)
            self.assertEqual(tree.form, TUPLES)
            self.assertEqual(tree.length, 2)
        self.assertEqual(Tree(form=["end", 7]).form, ("end", 7))
        self.assertEqual(Tree(END).length, 0)
        self.assertEqual(Tree(ask([10 ** 9, 0], [5])).form, ("ask", 0, (((0, 10 ** 9), END), ((5,), END))))

    def test_random_trees(self):
        rng = random.Random(151)
        lengths = {}
        for _ in range(150):
            rule = random_rule(rng, parties=3, hands=4)
            form = random_form(rng, rule, rule.full)
            tree = Tree(form)
            self.assertEqual(tree.form, plain_form(form))
            self.assertEqual(tree.length, plain_length(form))
            self.assertEqual(list(tree.ends()), plain_ends(form))
            for combination in rule.full:
                self.assertEqual(tree(combination), answered(form, combination))
            lengths[tree.length] = True
        self.assertEqual(sorted(lengths), [0, 1, 2, 3, 4])

    def bad(self, path, form):
        self.refused(BadTree, {"path": path}, Tree, form)
        self.refused(BadTree, {"path": (1, *path)}, Tree, inner(form))
        self.refused(BadTree, {"path": (1, 1, *path)}, Tree, inner(inner(form)))

    def test_bad_forms(self):
        for form in ((), [], 5, None, "end", "ask", True, ("end",), ("end", 0, 0), ("end", -1), ("end", True), ("end", False),
                     ("end", "a"), ("end", None), ("end", 1.0), ("stop", 0), (0, 0), ("ask",), ("ask", 0), ("end", 0, END),
                     ("ask", 0, (), ()), (["end"], 0), ("END", 0), {"end": 0}, ("no", 0, ((0,), END)), [["end", 0]]):
            self.bad((), form)

    def test_bad_questions(self):
        two = [([0], END), ([1], END)]
        for party in (-1, True, False, None, "a", 1.0):
            self.bad((), ("ask", party, two))
        for branches in (two[:1], [], (), None, 7, "ab", [([0], END), None], [([0], END), ([1],)], [([0], END), ([1], END, END)],
                         [([0], END), (1, END)], [([0], END), ("b", END)], [([0], END), (None, END)], {0: END, 1: END}):
            self.bad((), ("ask", 0, branches))

    def test_bad_cells(self):
        for cells in ([[0], []], [[], [1]], [[0], [0]], [[0, 1], [2, 1]], [[0], [1, 1]], [[2, 2], [3]], [[0], [-1]],
                      [[0], [True]], [[False], [1]], [[0], ["a"]], [[0], [None]], [[0], [[1]]], [[0], [1.0]]):
            self.bad((), ask(*cells))

    def test_the_least_of_several_paths(self):
        bad = ("end", -1)
        self.refused(BadTree, {"path": (0, 1)}, Tree, ("ask", 0, [([0], inner(bad)), ([1], bad)]))
        self.refused(BadTree, {"path": (0,)}, Tree, ("ask", 0, [([0], bad), ([1], inner(bad))]))
        self.refused(BadTree, {"path": (1,)}, Tree, ("ask", 0, [([0], END), ([1], bad), ([2], bad)]))
        # What stands behind an invalid question is not asked, and its own path is less.
        self.refused(BadTree, {"path": ()}, Tree, ("ask", 0, [([0], bad), ([0], bad)]))
        self.refused(BadTree, {"path": (0,)}, Tree, ("ask", 0, [([0], ("ask", -1, [([0], bad), ([1], bad)])), ([1], bad)]))

    def test_the_same_hand_in_questions_of_several_parties(self):
        Tree(("ask", 0, [([0], ("ask", 1, [([0], END), ([1], END)])), ([1], ("ask", 0, [([1], END), ([0], END)]))]))

    def test_a_hundred_questions_on_a_path(self):
        tree = Tree(chain_form(100))
        self.assertEqual(tree.length, 100)
        self.assertEqual(len(list(tree.ends())), 101)
        self.assertEqual([tree((hand,)) for hand in (0, 57, 99, 100)], [0, 57, 99, 100])
        self.assertEqual(tree.cut(Box([list(range(60, 101))])).length, 40)
        deep = chain_form(100)
        for _ in range(400):
            deep = ("ask", 1, [([0], END), ([1], deep)])
        self.assertEqual(Tree(deep).length, 500)

    def test_branches_in_the_order_given(self):
        tree = Tree(("ask", 0, [([5, 4], ("end", 2)), ([0], ("end", 1)), ([3, 9, 1], ("end", 0))]))
        self.assertEqual([cell for cell, _ in tree.form[2]], [(4, 5), (0,), (1, 3, 9)])
        self.assertEqual(list(tree.ends()), [((0,), 2), ((1,), 1), ((2,), 0)])

    def test_ends(self):
        wide = Tree(("ask", 0, [([hand], END if hand % 2 else inner(END)) for hand in range(12)]))
        paths = [path for path, _ in wide.ends()]
        self.assertEqual(paths, sorted(paths))
        self.assertEqual(paths[-3:], [(10, 1), (10, 2), (11,)])
        self.assertTrue(inspect.isgeneratorfunction(Tree.ends))
        self.assertEqual(list(Tree(END).ends()), [((), 0)])

    def test_honest_answers(self):
        tree = Tree(LISTS)
        self.assertEqual([tree((0, 3)), tree((0, 2)), tree((2, 2))], [4, 1, 0])
        self.assertEqual(tree(combination=(9, 1)), 4)
        self.refused(BadAnswer, {"path": ()}, tree, (0, 0))
        self.refused(BadAnswer, {"path": (1,)}, tree, (7, 2))
        self.assertEqual(Tree(END)(()), 0)

    def test_what_is_passed_and_then_changed(self):
        form = ["ask", 0, [[[1, 0], ["end", 0]], [[2], ["end", 1]]]]
        tree = Tree(form)
        self.assertEqual(form, ["ask", 0, [[[1, 0], ["end", 0]], [[2], ["end", 1]]]])
        form[2][0][0].append(3)
        form[2].pop()
        self.assertEqual(tree.form, ("ask", 0, (((0, 1), END), ((2,), ("end", 1)))))
        self.assertFalse(tree == Tree(tree.form))


class CutTest(unittest.TestCase):
    def test_random(self):
        rng = random.Random(152)
        shorter = 0
        for _ in range(300):
            rule = random_rule(rng, parties=3, hands=4)
            tree = Tree(random_form(rng, rule, rule.full))
            box = random_box(rng, rule)
            before = tree.form
            cut = tree.cut(box=box)
            self.assertEqual(cut.form, plain_cut(tree.form, box))
            self.assertEqual(tree.form, before)
            for combination in rule.cut(box).full:
                self.assertEqual(cut(combination), tree(tuple(box[party][hand] for party, hand in enumerate(combination))))
            shorter += cut.length < tree.length
        self.assertGreater(shorter, 50)

    def test_by_hand(self):
        tree = Tree(("ask", 0, [([0, 2], ("ask", 1, [([0], ("end", 5)), ([1], ("end", 6))])), ([1], ("end", 7)), ([3], END)]))
        self.assertEqual(tree.cut(Box([[1, 3], [0, 1]])).form, ("ask", 0, (((0,), ("end", 7)), ((1,), END))))
        # At the root, and several questions in a row.
        self.assertEqual(tree.cut(Box([[2], [0, 1]])).form, ("ask", 1, (((0,), ("end", 5)), ((1,), ("end", 6)))))
        self.assertEqual(tree.cut(Box([[2], [1]])).form, ("end", 6))
        self.assertEqual(tree.cut(Box([[2, 3], [1]])).form, ("ask", 0, (((0,), ("end", 6)), ((1,), END))))
        self.assertEqual(tree.cut(Box([[0, 2], [1]])).form, ("end", 6))
        self.assertEqual(Tree(END).cut(Box([[0, 5]])).form, END)

    def test_a_branch_left_out_with_questions_of_the_same_party(self):
        tree = Tree(chain_form(4))
        self.assertEqual(tree.cut(Box([[0, 4]])).form, ("ask", 0, (((0,), END), ((1,), ("end", 4)))))
        self.assertEqual(tree.cut(Box([[3]])).form, ("end", 3))


if __name__ == "__main__":
    unittest.main()
