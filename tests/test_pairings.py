"""Point 38: greatest pairings and barriers."""

import random
import unittest
from itertools import combinations

from playhall.pairings import barrier, greatest_pairing
from tests.helpers import spread


def greatest(players, allowed):
    """The number of pairs of a greatest pairing, by trying all."""
    if len(players) < 2:
        return 0
    rest = players[1:]
    return max([greatest(rest, allowed)] + [
        1 + greatest([player for player in rest if player != other], allowed) for other in rest if (players[0], other) in allowed])


class PairingsTest(unittest.TestCase):
    def judge(self, count, barred, most=None):
        """Judges the pairing and the barrier by the words of point 38; returns the number of pairs."""
        copies = list(barred)
        pairs, wall = greatest_pairing(count, barred), barrier(count, barred)
        self.assertEqual(list(barred), copies)
        self.assertEqual(pairs, sorted(pairs))
        paired = [player for pair in pairs for player in pair]
        self.assertEqual(len(set(paired)), len(paired))
        for lesser, greater in pairs:
            self.assertTrue(0 <= lesser < greater < count)
            self.assertNotIn((lesser, greater), barred)
            self.assertNotIn((greater, lesser), barred)
        self.assertEqual(wall, sorted(set(wall)))
        self.assertTrue(all(0 <= player < count for player in wall))
        outside = [player for player in range(count) if player not in wall]

        def neighbours(player):
            return [other for other in outside
                    if other != player and (player, other) not in barred and (other, player) not in barred]

        islands = {tuple(sorted(spread([player], neighbours))) for player in outside}
        odd = [island for island in islands if len(island) % 2]
        self.assertEqual(count - len(paired), len(odd) - len(wall))
        return len(pairs)

    def test_nobody_and_one(self):
        self.assertEqual((greatest_pairing(0, []), barrier(0, [])), ([], []))
        self.assertEqual((greatest_pairing(1, []), barrier(1, [])), ([], []))
        self.judge(0, [])
        self.judge(1, [])

    def test_nothing_and_everything_barred(self):
        for count in range(13):
            self.assertEqual(self.judge(count, []), count // 2)
            self.assertEqual(self.judge(count, list(combinations(range(count), 2))), 0)

    def test_both_orders_and_repeatedly(self):
        self.assertEqual(greatest_pairing(3, [(1, 0), (0, 1), (2, 1), (1, 2), (1, 2)]), [(0, 2)])
        self.assertEqual(greatest_pairing(2, [(1, 0)]), [])
        self.assertEqual(greatest_pairing(2, [(0, 1), (0, 1)]), [])
        self.judge(4, [(1, 0), (0, 1), (3, 2), (3, 2)])

    def test_random(self):
        rng = random.Random(71)
        for _ in range(250):
            count = rng.randint(0, 8)
            share = rng.choice([0.3, 0.6, 0.8])
            barred = [rng.choice([pair, pair[::-1]]) for pair in combinations(range(count), 2) if rng.random() < share]
            allowed = {pair for pair in combinations(range(count), 2) if pair not in barred and pair[::-1] not in barred}
            self.assertEqual(self.judge(count, barred), greatest(list(range(count)), allowed))

    def test_twelve(self):
        rng = random.Random(72)
        for _ in range(15):
            barred = [pair for pair in combinations(range(12), 2) if rng.random() < 0.8]
            self.judge(12, barred)

    def only(self, count, allowed):
        return [pair for pair in combinations(range(count), 2) if pair not in allowed and pair[::-1] not in allowed]

    def test_odd_rings(self):
        for length in (3, 5, 7, 11):
            ring = [(at, (at + 1) % length) for at in range(length)]
            self.assertEqual(self.judge(length, self.only(length, ring)), length // 2)
        # Two triangles with a bridge, two without one, and three around one player.
        triangles = [(0, 1), (1, 2), (2, 0), (3, 4), (4, 5), (5, 3)]
        self.assertEqual(self.judge(6, self.only(6, triangles)), 2)
        self.assertEqual(self.judge(6, self.only(6, [*triangles, (2, 3)])), 3)
        three = [*triangles, (6, 7), (7, 8), (8, 6), (9, 0), (9, 3), (9, 6)]
        self.assertEqual(self.judge(10, self.only(10, three)), 4)
        self.assertEqual(barrier(10, self.only(10, three)), [9])
        # Rings of five that share a player, and a tail.
        shared = [(0, 1), (1, 2), (2, 3), (3, 4), (4, 0), (4, 5), (5, 6), (6, 7), (7, 8), (8, 4), (8, 9), (9, 10)]
        self.assertEqual(self.judge(11, self.only(11, shared)), 5)

    def test_stars(self):
        star = [(0, at) for at in range(1, 7)]
        self.assertEqual(self.judge(7, self.only(7, star)), 1)
        self.assertEqual(barrier(7, self.only(7, star)), [0])

    def test_tuples_names_and_new_lists(self):
        self.assertEqual(greatest_pairing(count=2, barred=()), [(0, 1)])
        barrier(count=7, barred=self.only(7, [(0, at) for at in range(1, 7)])).clear()
        greatest_pairing(2, ()).clear()
        self.assertEqual(greatest_pairing(2, ()), [(0, 1)])
        self.assertEqual(barrier(7, tuple(self.only(7, [(0, at) for at in range(1, 7)]))), [0])


if __name__ == "__main__":
    unittest.main()
