"""Point 46: boxes."""

import random
import unittest
from itertools import product

from playhall.askerrors import BadBox
from playhall.boxes import Box
from tests.helpers import Checks


def plain_difference(box, other):
    """The sides of the boxes of `box - other`, by the words of the interface."""
    common = (box & other).sides
    rows = []
    for party in range(len(box.sides)):
        own = tuple(hand for hand in box[party] if hand not in other[party])
        rows.append((*common[:party], own, *box.sides[party + 1:]))
    return [row for row in rows if all(row)]


class BoxTest(Checks):
    def test_sides(self):
        box = Box([[3, 1, 3, 0], (7, 7), [10 ** 9]])
        self.assertEqual(box.sides, ((0, 1, 3), (7,), (10 ** 9,)))
        self.assertEqual([box[0], box[1], box[2]], list(box.sides))
        self.assertEqual(Box(sides=(((2, 1)), [])).sides, ((1, 2), ()))
        self.assertEqual(list(box), [(0, 7, 10 ** 9), (1, 7, 10 ** 9), (3, 7, 10 ** 9)])
        self.assertEqual(list(Box([[]])), [])
        self.assertEqual(list(Box([list(range(120))] * 7 + [[]])), [])

    def test_refused(self):
        self.refused(BadBox, {}, Box, [])
        self.refused(BadBox, {}, Box, ())
        for hand in (-1, True, False, "a", None, (0,), 1.0, [1]):
            self.refused(BadBox, {}, Box, [[0], [1, hand]])
            self.refused(BadBox, {}, Box, [[hand]])
            self.refused(BadBox, {}, Box([[0], [1]]).with_side, 1, [0, hand])

    def test_iteration(self):
        box = Box([[1, 0], [2, 3]])
        expected = [(0, 2), (0, 3), (1, 2), (1, 3)]
        self.assertEqual(list(box), expected)
        self.assertEqual(list(box), expected)
        self.assertEqual([(one, other) for one in box for other in box], list(product(expected, expected)))

    def test_in(self):
        box = Box([[0, 1], [1, 5]])
        for combination in product(range(7), repeat=2):
            self.assertIs(combination in box, combination in list(box))
        for combination in ((), (0,), (0, 1, 1), (True, 5), (0, True), (False, 1), (1, False), (0, 2)):
            self.assertIs(combination in box, False)
        self.assertFalse((0, 1) in Box([[0], []]))

    def test_what_is_passed_and_then_changed(self):
        sides = [[0, 1], [2]]
        box = Box(sides)
        sides[0].append(4)
        sides.append([9])
        self.assertEqual(box.sides, ((0, 1), (2,)))
        side = [3, 0]
        other = box.with_side(1, side)
        self.assertEqual(side, [3, 0])
        side.clear()
        self.assertEqual((box.sides, other.sides), (((0, 1), (2,)), ((0, 1), (0, 3))))

    def test_with_side(self):
        box = Box([[0, 1], [2], [3]])
        self.assertEqual(box.with_side(0, [5, 4, 5]).sides, ((4, 5), (2,), (3,)))
        self.assertEqual(box.with_side(party=2, side=()).sides, ((0, 1), (2,), ()))
        self.assertEqual(list(box.with_side(1, (7,))), [(0, 7, 3), (1, 7, 3)])

    def test_two_boxes(self):
        one, same = Box([[0]]), Box([[0]])
        self.assertFalse(one == same)
        self.assertTrue(one == one)

    def judge(self, box, other):
        """Judges within, & and - by the combinations."""
        own, others = list(box), list(other)
        self.assertIs(box.within(other), all(combination in others for combination in own))
        common = box & other
        self.assertIsInstance(common, Box)
        self.assertEqual(list(common), [combination for combination in own if combination in others])
        for party in range(len(box.sides)):
            self.assertEqual(common[party], tuple(hand for hand in box[party] if hand in other[party]))
        rest = box - other
        self.assertIsInstance(rest, list)
        self.assertEqual([part.sides for part in rest], plain_difference(box, other))
        found = [combination for part in rest for combination in part]
        self.assertEqual(sorted(found), [combination for combination in own if combination not in others])

    def test_apart_equal_inside_and_overlapping(self):
        box = Box([[0, 1], [0, 1], [0, 1]])
        for sides in ([[2], [3], [4]], [[0, 1]] * 3, [[0]] * 3, [[0, 1, 2]] * 3, [[1, 2], [0, 1], [0, 1]],
                      [[0, 1], [1, 2], [1]], [[0, 1], [0, 1], [1, 2]], [[1, 2]] * 3, [[0], [2], [0, 1]], [[], [0], [0]],
                      [[0, 1], [0], []]):
            self.judge(box, Box(sides))
            self.judge(Box(sides), box)
        self.assertEqual([part.sides for part in box - Box([[1, 2]] * 3)],
                         [((0,), (0, 1), (0, 1)), ((1,), (0,), (0, 1)), ((1,), (1,), (0,))])
        self.assertEqual(box - box, [])
        self.assertEqual([part.sides for part in box - Box([[2], [0, 1], [0, 1]])], [box.sides])

    def test_random(self):
        rng = random.Random(121)
        for _ in range(300):
            parties = rng.randint(1, 3)
            one, other = [Box([rng.sample(range(4), rng.choice([0, 1, 2, 3, 4, 4])) for _ in range(parties)]) for _ in "ab"]
            self.judge(one, other)
            self.assertEqual(one.within(other=other), not (one - other))

    def test_large(self):
        box = Box([[10 ** 9 - at for at in range(20)], list(range(60))])
        self.assertEqual(len(list(box)), 1200)
        self.judge(box, Box([[10 ** 9 - 7, 10 ** 9], list(range(30, 90))]))


if __name__ == "__main__":
    unittest.main()
