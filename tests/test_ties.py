"""Points 47 and 48: floors, promises, ties and groups."""

import random
import unittest

from playhall.boxes import Box
from playhall.rules import Rule
from playhall.ties import floor, groups, promise, reach, tie
from tests.helpers import random_box, random_rule, spread


def outcomes_of(rule, box, party, hands):
    return [rule(combination) for combination in box if combination[party] in hands]


def plain_promise(rule, box, party, hand, cell):
    outside = [other for other in box[party] if other not in cell]
    worths = [rule.worth(party, hand, outcome) for outcome in outcomes_of(rule, box, party, outside)]
    return max(worths) if worths else None


def is_witness(rule, box, party, first, second, witness):
    own, other = witness
    return (own in box and other in box and {own[party], other[party]} == {first, second}
            and rule.worth(party, own[party], rule(own)) < rule.worth(party, own[party], rule(other)))


def are_tied(rule, box, party, first, second):
    return any(is_witness(rule, box, party, first, second, (own, other)) for own in box for other in box)


def plain_groups(rule, box, party):
    def tied(hand):
        return [other for other in box[party] if other != hand and are_tied(rule, box, party, hand, other)]

    return sorted({tuple(sorted(spread([hand], tied))) for hand in box[party]})


def samples(seed, count):
    rng = random.Random(seed)
    for _ in range(count):
        rule = random_rule(rng, parties=rng.randint(1, 3), hands=4, top=rng.choice([1, 3]))
        box = random_box(rng, rule)
        yield rng, rule, box, rng.randrange(rule.parties)


class TiesTest(unittest.TestCase):
    def test_reach_floor_and_promise(self):
        for rng, rule, box, party in samples(141, 150):
            for hand in box[party]:
                reached = reach(rule, box, party, hand)
                self.assertEqual(reached, tuple(sorted(set(outcomes_of(rule, box, party, [hand])))))
                self.assertEqual(floor(rule, box, party, hand), min(rule.worth(party, hand, out) for out in reached))
                for cell in ([hand], list(box[party]), rng.sample(box[party], rng.randint(1, len(box[party])))):
                    before = list(cell)
                    found = promise(rule, box, party, hand, cell)
                    self.assertEqual(found, plain_promise(rule, box, party, hand, cell))
                    self.assertEqual(found is None, set(box[party]) <= set(cell))
                    self.assertEqual(cell, before)

    def test_by_hand(self):
        rule = Rule([[[5, 1], [0, 2]], [[0, 0], [0, 0]]], [0, 1, 1, 0])
        self.assertEqual(reach(rule=rule, box=rule.full, party=0, hand=0), (0, 1))
        self.assertEqual(reach(rule, Box([[0], [1]]), 0, 0), (1,))
        self.assertEqual(floor(rule=rule, box=rule.full, party=0, hand=0), 1)
        self.assertEqual(promise(rule=rule, box=rule.full, party=0, hand=0, cell=[0]), 5)
        self.assertEqual(promise(rule, Box([[0, 1], [0]]), 0, 0, (0,)), 1)
        self.assertIsNone(promise(rule, rule.full, 0, 1, (0, 1)))
        self.assertIsNone(promise(rule, Box([[0], [0, 1]]), 0, 0, [0]))
        self.assertIsNone(tie(rule=rule, box=Box([[0, 1], [0]]), party=0, first=0, second=1))
        self.assertEqual(tie(rule, Box([[0, 1], [1]]), 0, 0, 1), ((0, 1), (1, 1)))
        self.assertEqual(groups(rule=rule, box=rule.full, party=0), [(0, 1)])
        self.assertEqual(groups(rule, rule.full, 1), [(0,), (1,)])

    def test_ties(self):
        tied = {True: 0, False: 0}
        for _, rule, box, party in samples(142, 150):
            for first in box[party]:
                for second in box[party]:
                    if first != second:
                        witness = tie(rule, box, party, first, second)
                        self.assertEqual(witness is not None, are_tied(rule, box, party, first, second))
                        tied[witness is not None] += 1
                        if witness is not None:
                            self.assertIsInstance(witness, tuple)
                            self.assertTrue(is_witness(rule, box, party, first, second, witness))
        self.assertGreater(min(tied.values()), 50)

    def test_a_tie_by_the_second_hand_only(self):
        rule = Rule([[[0, 0], [0, 1]]], [1, 0])
        self.assertEqual(tie(rule, rule.full, 0, 0, 1), ((1,), (0,)))
        self.assertEqual(tie(rule, rule.full, 0, 1, 0), ((1,), (0,)))

    def test_groups(self):
        sizes = {}
        for _, rule, box, party in samples(143, 150):
            found = groups(rule, box, party)
            self.assertIsInstance(found, list)
            self.assertEqual(found, plain_groups(rule, box, party))
            sizes[len(found)] = sizes.get(len(found), 0) + 1
        self.assertGreater(min(sizes[1], sizes[2], sizes[3]), 3, sizes)

    def test_groups_that_hang_together_by_a_chain_only(self):
        # Hands 0 and 3 long for what 4 gets, and 1 for what 2 gets; 0 and 3 are not tied.
        worths = [[0, 0, 0, 0, 1], [0, 0, 1, 0, 0], [0, 0, 0, 0, 0], [0, 0, 0, 0, 1], [0, 0, 0, 0, 0]]
        rule = Rule([worths], [0, 1, 2, 3, 4])
        self.assertIsNone(tie(rule, rule.full, 0, 0, 3))
        self.assertEqual(groups(rule, rule.full, 0), [(0, 3, 4), (1, 2)])
        self.assertEqual(groups(rule, Box([[3, 2, 0]]), 0), [(0,), (2,), (3,)])
        rule = Rule([[worths[at] for at in (2, 1, 0, 3, 4)]], [2, 1, 0, 3, 4])
        self.assertEqual(groups(rule, rule.full, 0), [(0, 1), (2, 3, 4)])

    def test_a_question_is_plain_if_no_group_is_parted(self):
        for rng, rule, box, party in samples(144, 150):
            side = list(box[party])
            rng.shuffle(side)
            if len(side) > 1:
                cells = [side[:1], side[1:]]
                plain = all(floor(rule, box, party, hand) >= promise(rule, box, party, hand, cell)
                            for cell in cells for hand in cell)
                together = all(set(group) <= set(cells[0]) or set(group) <= set(cells[1])
                               for group in groups(rule, box, party))
                self.assertEqual(plain, together)

    def test_many_hands(self):
        rng = random.Random(145)
        rule = Rule([[[rng.randint(0, 9) for _ in range(60)] for _ in range(120)], [[0] * 60 for _ in range(5)]],
                    [rng.randrange(60) for _ in range(600)])
        self.assertEqual(sorted(hand for group in groups(rule, rule.full, 0) for hand in group), list(range(120)))
        self.assertEqual(groups(rule, rule.full, 1), [(hand,) for hand in range(5)])


if __name__ == "__main__":
    unittest.main()
