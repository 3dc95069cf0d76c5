"""Points 63 and 64: regions as objects, and weights."""

import random
import unittest
from fractions import Fraction
from math import gcd

from playhall.houseerrors import Barred, EmptyRegion, InvalidMix
from playhall.mixes import lowest
from playhall.polygons import Region
from tests.helpers import Checks, bound_value, fractions_of, in_hull, plain_hull, turn_of

GREAT = 10 ** 60


def state(region):
    return (region.corners, region.edges)


def is_direction(bound, a, b):
    """Whether (a, b) of a bound is a multiple above 0 of a direction."""
    return bound[0] * b == bound[1] * a and bound[0] * a + bound[1] * b > 0


class PolygonCheck(Checks):
    def judge(self, mixes):
        """Judges the corners and the edges of a region of some mixes by the words of point 63."""
        region = Region(mixes)
        corners, edges = region.corners, region.edges
        self.assertEqual([fractions_of(corner) for corner in corners], plain_hull([fractions_of(mix) for mix in mixes]))
        self.assertEqual([lowest(corner) for corner in corners], corners)
        self.assertIsInstance(corners, list)
        self.assertTrue(all(isinstance(found, tuple) for found in corners + edges))
        for edge in edges:
            self.assertEqual(gcd(*edge), 1)
            values = [bound_value(edge, corner) for corner in corners]
            self.assertEqual(max(values), 0)
        equal = [[at for at, corner in enumerate(corners) if bound_value(edge, corner) == 0] for edge in edges]
        if len(corners) > 2:
            self.assertEqual(equal, [sorted([at, (at + 1) % len(corners)]) for at in range(len(corners))])
        else:
            u, v = (1, 0)
            if len(corners) == 2:
                first, last = map(fractions_of, corners)
                u, v = last[0] - first[0], last[1] - first[1]
            directions = [(v, -u), (u, v), (-v, u), (-u, -v)]
            self.assertEqual(len(edges), 4)
            self.assertTrue(all(is_direction(edge, *direction) for edge, direction in zip(edges, directions)))
            self.assertEqual(equal, [[0], [0], [0], [0]] if len(corners) == 1 else [[0, 1], [1], [0, 1], [0]])
        return region

    def judge_weights(self, region, mix):
        found = region.weights(mix)
        self.assertIsInstance(found, list)
        self.assertIn(len(found), (1, 2, 3))
        indexes = [index for index, _ in found]
        self.assertEqual(indexes, sorted(set(indexes)))
        self.assertTrue(all(0 <= index < len(region.corners) and weight >= 1 for index, weight in found))
        self.assertEqual(gcd(*[weight for _, weight in found]), 1)
        total = sum(weight for _, weight in found)
        for axis in (0, 1):
            mean = sum(weight * fractions_of(region.corners[index])[axis] for index, weight in found) / total
            self.assertEqual(mean, fractions_of(mix)[axis])
        return found


class RegionTest(PolygonCheck):
    def test_one_mix(self):
        region = self.judge([(4, -6, 8)])
        self.assertEqual(state(region), ([(2, -3, 4)], [(0, -4, 3), (2, 0, 1), (0, 4, -3), (-2, 0, -1)]))
        self.assertEqual(state(self.judge([(0, 0, 9)])), ([(0, 0, 1)], [(0, -1, 0), (1, 0, 0), (0, 1, 0), (-1, 0, 0)]))
        self.assertEqual(self.judge([(2, 4, 2), (1, 2, 1), (3, 6, 3)]).corners, [(1, 2, 1)])

    def test_two_points(self):
        for mixes in ([(0, 0, 1), (2, 4, 2)], [(2, 4, 2), (0, 0, 1)], [(0, 0, 5), (1, 2, 1), (1, 2, 2), (0, 0, 1)]):
            region = self.judge(mixes)
            self.assertEqual(state(region), ([(0, 0, 1), (1, 2, 1)], [(2, -1, 0), (1, 2, 5), (-2, 1, 0), (-1, -2, 0)]))
        # Upright, level, and falling.
        self.assertEqual(state(self.judge([(1, 3, 1), (1, 1, 1)])),
                         ([(1, 1, 1), (1, 3, 1)], [(1, 0, 1), (0, 1, 3), (-1, 0, -1), (0, -1, -1)]))
        self.assertEqual(state(self.judge([(3, 1, 2), (1, 1, 2)])),
                         ([(1, 1, 2), (3, 1, 2)], [(0, -2, -1), (2, 0, 3), (0, 2, 1), (-2, 0, -1)]))
        self.assertEqual(self.judge([(1, -1, 3), (-1, 1, 3)]).corners, [(-1, 1, 3), (1, -1, 3)])

    def test_many_points_on_one_line(self):
        region = self.judge([(x, 2 * x + 1, 1) for x in (3, -1, 0, 7, 5, 2)])
        self.assertEqual(region.corners, [(-1, -1, 1), (7, 15, 1)])
        region = self.judge([(5, y, 3) for y in (3, -1, 0, 7, 5, 2)])
        self.assertEqual(region.corners, [(5, -1, 3), (5, 7, 3)])

    def test_by_hand(self):
        region = self.judge([(0, 0, 1), (2, 0, 1), (2, 2, 1), (0, 2, 1), (1, 1, 1), (1, 0, 1), (2, 1, 1), (4, 4, 2)])
        self.assertEqual(state(region), (
            [(0, 0, 1), (2, 0, 1), (2, 2, 1), (0, 2, 1)], [(0, -1, 0), (1, 0, 2), (0, 1, 2), (-1, 0, 0)]))
        region = self.judge([(1, 1, 2), (0, 0, 1), (0, 1, 3)])
        self.assertEqual(state(region), ([(0, 0, 1), (1, 1, 2), (0, 1, 3)], [(1, -1, 0), (-1, 3, 1), (-1, 0, 0)]))

    def test_the_first_corner(self):
        region = self.judge([(0, 5, 1), (0, 1, 1), (3, 0, 1), (1, 7, 1)])
        self.assertEqual(region.corners, [(0, 1, 1), (3, 0, 1), (1, 7, 1), (0, 5, 1)])

    def test_random(self):
        rng = random.Random(311)
        counts = {}
        for _ in range(400):
            top = rng.choice([1, 2, 4, 30])
            mixes = [(rng.randint(-top, top), rng.randint(-top, top), rng.choice([1, 1, 2, 3])) for _ in range(rng.randint(1, 9))]
            kept = list(mixes)
            region = self.judge(mixes)
            self.assertEqual(mixes, kept)
            counts[len(region.corners)] = counts.get(len(region.corners), 0) + 1
            corners = [fractions_of(corner) for corner in region.corners]
            for _ in range(6):
                mix = (rng.randint(-top, top), rng.randint(-top, top), rng.choice([1, 2, 5]))
                inside = in_hull(corners, fractions_of(mix))
                self.assertIs(mix in region, inside)
                barring = [edge for edge in region.edges if bound_value(edge, mix) > 0]
                self.assertEqual(region.bar(mix), None if inside else barring[0])
                if inside:
                    self.judge_weights(region, mix)
                else:
                    self.refused(Barred, {"edge": barring[0]}, region.weights, mix)
        self.assertGreater(min(counts.get(count, 0) for count in (1, 2, 3, 4, 5, 6)), 5)

    def test_60_mixes_of_60_digits(self):
        rng = random.Random(312)
        round_ones = []
        for k in range(60):
            # Points on a circle, so that each of them is a corner.
            u, v = rng.randint(-10 ** 14, 10 ** 14), rng.randint(1, 10 ** 14)
            round_ones.append((u * u - v * v, 2 * u * v * (1 if k % 2 else -1), u * u + v * v))
        self.assertEqual(len(self.judge(round_ones).corners), len(set(map(fractions_of, round_ones))))
        mixes = [(rng.randint(-GREAT, GREAT), rng.randint(-GREAT, GREAT), rng.randint(1, GREAT)) for _ in range(60)]
        region = self.judge(mixes)
        for mix in mixes:
            self.assertIn(mix, region)
            self.judge_weights(region, mix)
        self.judge([(GREAT, GREAT, 1), (-GREAT, GREAT - 1, 1), (GREAT, -GREAT, GREAT)])
        # Nearly on a line.
        region = self.judge([(0, 0, 1), (GREAT, GREAT, 1), (GREAT - 1, GREAT - 2, GREAT)])
        self.assertEqual(len(region.corners), 3)

    def test_refused(self):
        self.refused(EmptyRegion, {}, Region, [])
        self.refused(EmptyRegion, {}, Region, ())
        self.refused(InvalidMix, {"mix": (1, 2, 0)}, Region, [(1, 2, 0)])
        self.refused(InvalidMix, {"mix": (2, 2, -1)}, Region, [(1, 2, 1), (2, 2, -1), (0, 0, 0)])
        region = Region([(1, 2, 1)])
        for mix in ((1, 2, 0), (-1, -2, -1), (0, 0, 0)):
            self.refused(InvalidMix, {"mix": mix}, region.bar, mix)
            self.refused(InvalidMix, {"mix": mix}, region.weights, mix)
            self.refused(InvalidMix, {"mix": mix}, lambda: mix in region)

    def test_in_on_edges_and_corners(self):
        region = Region([(0, 0, 1), (3, 0, 1), (0, 3, 1)])
        for mix in ((0, 0, 7), (6, 0, 2), (0, 3, 1), (3, 3, 2), (1, 0, 1), (0, 1, 3), (1, 1, 1)):
            self.assertIs(mix in region, True)
            self.assertIsNone(region.bar(mix=mix))
        for mix, edge in (((-1, 1, 9), (-1, 0, 0)), ((1, -1, 9), (0, -1, 0)), ((2, 2, 1), (1, 1, 3)), ((-1, -1, 1), (0, -1, 0)),
                          ((4, -1, 1), (0, -1, 0)), ((-1, 5, 1), (1, 1, 3)), ((GREAT + 1, 0, GREAT // 3), (1, 1, 3))):
            self.assertIs(mix in region, False)
            self.assertEqual(region.bar(mix), edge)
            self.refused(Barred, {"edge": edge}, region.weights, mix)
        line = Region([(0, 0, 1), (2, 2, 1)])
        for mix, edge in (((3, 3, 1), (1, 1, 4)), ((-1, -1, 5), (-1, -1, 0)), ((1, 0, 1), (1, -1, 0)), ((0, 1, 1), (-1, 1, 0)),
                          ((9, 0, 1), (1, -1, 0))):
            self.assertEqual(line.bar(mix), edge)
        self.assertIs((3, 3, 2) in line, True)
        point = Region([(1, 2, 1)])
        for mix, edge in (((1, 1, 1), (0, -1, -2)), ((2, 2, 1), (1, 0, 1)), ((1, 3, 1), (0, 1, 2)), ((0, 2, 1), (-1, 0, -1)),
                          ((0, 0, 1), (0, -1, -2))):
            self.assertEqual(point.bar(mix), edge)

    def test_within_and_equal(self):
        rng = random.Random(313)
        found = {True: 0, False: 0}
        for _ in range(200):
            mixes = [(rng.randint(0, 3), rng.randint(0, 3), rng.choice([1, 2])) for _ in range(rng.randint(2, 8))]
            half = rng.randint(1, len(mixes) - 1)
            one, other = Region(mixes[:half]), Region(mixes[rng.choice([0, half]):])
            expected = all(in_hull([fractions_of(corner) for corner in other.corners], fractions_of(corner)) for corner in one.corners)
            self.assertIs(one.within(other), expected)
            self.assertIs(one == other, expected and other.within(one))
            self.assertIs(one != other, not (one == other))
            both = Region(one.corners + other.corners)
            self.assertTrue(one.within(other=both) and other.within(both))
            found[expected] += 1
        self.assertGreater(min(found.values()), 20)

    def test_equal(self):
        region = Region([(0, 0, 1), (3, 0, 1), (0, 3, 1)])
        self.assertIs(region == Region(((0, 6, 2), (1, 1, 1), (0, 0, 3), (3, 0, 1), (3, 0, 1))), True)
        for other in (Region([(0, 0, 1), (3, 0, 1)]), region.corners, state(region), None, 3, "region", tuple(region.corners)):
            self.assertIs(region == other, False)
            self.assertIs(region != other, True)

    def test_what_is_returned_is_new(self):
        region = Region([(0, 0, 1), (3, 0, 1), (0, 3, 1)])
        before = state(region)
        region.corners.clear()
        region.edges.append((0, 0, 0))
        self.assertEqual(state(region), before)
        mixes = [(0, 0, 1)]
        point = Region(mixes=mixes)
        mixes.append((5, 5, 1))
        self.assertEqual(point.corners, [(0, 0, 1)])


class WeightsTest(PolygonCheck):
    def test_at_corners_on_edges_and_inside(self):
        corners = [(0, 0, 1), (6, 1, 2), (5, 5, 1), (-1, 4, 1)]
        region = Region(corners)
        for at, corner in enumerate(region.corners):
            self.assertEqual(self.judge_weights(region, corner), [(at, 1)])
            self.assertEqual(region.weights(mix=tuple(3 * number for number in corner)), [(at, 1)])
        for at, corner in enumerate(region.corners):
            one, other = fractions_of(corner), fractions_of(region.corners[(at + 1) % 4])
            mean = [(one[axis] + 2 * other[axis]) / 3 for axis in (0, 1)]
            mix = (int(mean[0] * 6), int(mean[1] * 6), 6)
            self.assertEqual(sorted(self.judge_weights(region, mix)), sorted([(at, 1), ((at + 1) % 4, 2)]))
        self.assertEqual(len(self.judge_weights(Region(corners[:3]), (2, 1, 1))), 3)

    def test_segments_and_points(self):
        self.assertEqual(Region([(3, 6, 9)]).weights((1, 2, 3)), [(0, 1)])
        self.assertEqual(Region([(0, 0, 1), (2, 4, 1)]).weights((1, 2, 2)), [(0, 3), (1, 1)])
        self.assertEqual(Region([(1, 5, 1), (1, 2, 1)]).weights((1, 4, 1)), [(0, 1), (1, 2)])
        self.assertEqual(Region([(1, 5, 1), (1, 2, 1)]).weights((1, 5, 1)), [(1, 1)])
        # Corners are points here: their beats do not count.
        self.assertEqual(Region([(0, 0, 1), (7, 0, 10)]).weights((7, 0, 20)), [(0, 1), (1, 1)])
        self.assertEqual(Region([(2, 0, 3), (4, 0, 5)]).weights((22, 0, 30)), [(0, 1), (1, 1)])

    def test_great_numbers(self):
        region = Region([(GREAT, 1, GREAT - 1), (-GREAT, 7, GREAT), (5, GREAT, 3)])
        corners = [fractions_of(corner) for corner in region.corners]
        for weights in ((1, 1, 1), (1, 10 ** 9, 3), (10 ** 9, 1, 0)):
            total = sum(weights)
            mean = [sum(weight * corner[axis] for weight, corner in zip(weights, corners)) / total for axis in (0, 1)]
            beats = mean[0].denominator * mean[1].denominator
            mix = (int(mean[0] * beats), int(mean[1] * beats), beats)
            self.assertEqual(self.judge_weights(region, mix), [(at, weight) for at, weight in enumerate(weights) if weight])

    def test_turns(self):
        # The own reckoning itself.
        self.assertGreater(turn_of((0, 0), (1, 0), (0, Fraction(1, 3))), 0)
        self.assertEqual(plain_hull([(0, 0), (1, 0), (2, 0)]), [(0, 0), (2, 0)])


if __name__ == "__main__":
    unittest.main()
