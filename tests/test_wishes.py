"""Point 66: portions, plans, parting mixes and least numbers."""

import inspect
import random
import unittest
from fractions import Fraction
from itertools import islice
from math import gcd

from playhall.houseerrors import Barred, InvalidMix, UnknownTool
from playhall.houses import House
from playhall.mixes import lowest
from playhall.polygons import Region
from playhall.regions import region_of
from playhall.sessions import Session
from playhall.wishes import least_number, parting_mix, plan, portions
from tests.helpers import Checks, bound_value, fractions_of, in_hull, plain_lack, plain_totals, small_houses, still_window

OVEN = House([("oven", 1)], [
    Session("quick", [(0, "oven", 1)], first=1), Session("slow", [(0, "oven", 1), (1, "oven", 1)], first=1, second=3)])


def mixes_within(rng, region):
    """Corners of a region, and points on its edges and inside, not in lowest terms."""
    corners = region.corners
    found = []
    for count in (1, 2, 3):
        chosen = [rng.choice(corners) for _ in range(count)]
        weights = [rng.randint(1, 4) for _ in chosen]
        means = [sum(weight * fractions_of(corner)[axis] for weight, corner in zip(weights, chosen)) / sum(weights) for axis in (0, 1)]
        beats = means[0].denominator * means[1].denominator * rng.choice([1, 2, 6])
        found.append((int(means[0] * beats), int(means[1] * beats), beats))
    return found


class PortionsTest(Checks):
    def judge(self, house, mix):
        """Judges the portions of a kept mix by the words of point 66."""
        found = portions(house, mix)
        self.assertIsInstance(found, list)
        self.assertIn(len(found), (1, 2, 3))
        corners = region_of(house).corners
        means = []
        for ring, times in found:
            self.assertIsNone(plain_lack(house, ring, ring=True))
            self.assertGreaterEqual(times, 1)
            means.append(lowest(plain_totals(house, ring)))
            self.assertIn(means[-1], corners)
        self.assertEqual(len(set(means)), len(means))
        self.assertEqual(gcd(*[times for _, times in found]), 1)
        totals = [plain_totals(house, ring) for ring, _ in found]
        total = tuple(sum(times * row[place] for row, (_, times) in zip(totals, found)) for place in range(3))
        self.assertEqual(lowest(total), lowest(mix))
        self.assertEqual(portions(house, mix), found)
        return found

    def test_random_houses(self):
        counts = {}
        for rng, house in small_houses(341, 60, most=40):
            for mix in mixes_within(rng, region_of(house)):
                count = len(self.judge(house, mix))
                counts[count] = counts.get(count, 0) + 1
        self.assertGreater(min(counts[count] for count in (1, 2, 3)), 5)

    def test_rings_of_different_lengths(self):
        # In each two of three beats one oven can be used; the hall takes one session in five beats.
        house = House([("oven", 1), ("hall", 1)], [
            Session("comb", [(0, "oven", 1), (1, "oven", 1), (2, "oven", 1)], first=1),
            Session("long", [(beat, "hall", 1) for beat in range(5)], second=1)])
        for mix in ((1, 1, 8), (1, 1, 15), (0, 1, 5), (1, 0, 3), (1, 0, 7), (3, 2, 15), (1, 1, 10), (5, 3, 15), (0, 0, 4)):
            self.judge(house, mix)
        self.assertEqual([times for _, times in self.judge(house, (5, 3, 15))], [1])

    def test_by_hand(self):
        self.assertEqual(portions(house=OVEN, mix=(0, 0, 3)), [([(0, 0)], 1)])
        self.assertEqual(portions(OVEN, (2, 0, 2)), [([(1, 0)], 1)])
        self.assertEqual(sorted(portions(OVEN, (3, 0, 4))), [([(0, 0)], 1), ([(1, 0)], 3)])
        self.assertEqual(len(self.judge(OVEN, (1, 3, 4))), 2)
        self.assertEqual(len(self.judge(OVEN, (2, 1, 4))), 3)

    def test_refused(self):
        for mix in ((0, 0, 0), (1, 1, -1)):
            self.refused(InvalidMix, {"mix": mix}, portions, OVEN, mix)
        for rng, house in small_houses(342, 30, most=40):
            region = region_of(house)
            for _ in range(5):
                mix = (rng.randint(-9, 9), rng.randint(-9, 9), rng.randint(1, 3))
                barring = [edge for edge in region.edges if bound_value(edge, mix) > 0]
                if barring:
                    self.refused(Barred, {"edge": barring[0]}, portions, house, mix)
                else:
                    self.judge(house, mix)

    def test_a_closed_tool(self):
        with OVEN.closed("oven"):
            self.assertEqual(portions(OVEN, (0, 0, 1)), [([(0, 0)], 1)])
            self.refused(Barred, {"edge": (1, 0, 0)}, portions, OVEN, (1, 0, 9))
        self.judge(OVEN, (1, 0, 9))

    def test_great_numbers(self):
        great = 10 ** 60
        for mix in ((great - 1, 1, great), (1, 1, great), (great // 3, great // 5, great)):
            self.judge(OVEN, mix)

    def test_what_is_returned_is_new(self):
        found = portions(OVEN, (2, 1, 4))
        kept = [(list(ring), times) for ring, times in found]
        for ring, _ in found:
            ring.clear()
        found.clear()
        self.assertEqual(portions(OVEN, (2, 1, 4)), kept)


class PlanTest(Checks):
    def judge(self, house, mix, blocks):
        windows = list(plan(house, mix, blocks))
        expected = []
        for block in range(1, blocks + 1):
            for ring, times in portions(house, mix):
                expected.extend(list(ring) * (block * times))
                expected.extend([still_window(house)] * (house.horizon - 1))
        self.assertEqual(windows, expected)
        self.assertTrue(all(isinstance(window, tuple) for window in windows))
        self.assertIsNone(plain_lack(house, windows))
        return windows

    def test_random_houses(self):
        for rng, house in small_houses(343, 25, most=40):
            for mix in mixes_within(rng, region_of(house)):
                for blocks in (0, 1, 2, 3):
                    self.judge(house, mix, blocks)

    def test_the_mean_tends_to_the_mix(self):
        for mix in ((2, 1, 4), (3, 3, 6), (1, 3, 2), (1, 0, 1)):
            distances = []
            for blocks in (2, 12):
                totals = plain_totals(OVEN, self.judge(OVEN, mix, blocks))
                distances.append(max(abs(Fraction(totals[axis], totals[2]) - Fraction(mix[axis], mix[2])) for axis in (0, 1)))
            self.assertLessEqual(distances[1], distances[0] / 2)

    def test_by_hand(self):
        self.assertEqual(list(plan(OVEN, (1, 0, 1), 2)), [(1, 0), (0, 0), (1, 0), (1, 0), (0, 0)])
        self.assertEqual(list(plan(house=OVEN, mix=(5, 0, 5), blocks=0)), [])
        short = House([("a", 2)], [Session("one", [(0, "a", 1)], first=1)])
        self.assertEqual(list(plan(short, (2, 0, 1), 3)), [(2,)] * 6)

    def test_it_is_a_generator(self):
        self.assertTrue(inspect.isgeneratorfunction(plan))
        great = 10 ** 60
        first = list(islice(plan(OVEN, (great - 1, 1, great), 12), 5))
        self.assertEqual(len(first), 5)

    def test_errors_when_the_iteration_begins(self):
        for blocks in (0, 1, 12):
            for error, fields, mix in ((InvalidMix, {"mix": (1, 1, 0)}, (1, 1, 0)), (Barred, {"edge": (3, 1, 3)}, (2, 0, 1))):
                windows = plan(OVEN, mix, blocks)
                self.refused(error, fields, next, windows)
                self.refused(error, fields, list, plan(OVEN, mix, blocks))


class PartingMixTest(unittest.TestCase):
    def test_by_hand(self):
        large, small = Region([(0, 0, 1), (4, 0, 1), (0, 4, 1)]), Region([(1, 1, 1), (1, 2, 1), (0, 0, 1)])
        self.assertIsNone(parting_mix(region=small, other=large))
        self.assertEqual(parting_mix(large, small), (4, 0, 1))
        self.assertIsNone(parting_mix(large, large))
        self.assertEqual(parting_mix(Region([(-1, 0, 1), (9, 9, 1)]), large), (-1, 0, 1))
        self.assertEqual(parting_mix(Region([(1, 0, 1), (9, 9, 1)]), large), (9, 9, 1))

    def test_random(self):
        rng = random.Random(344)
        found = {True: 0, False: 0}
        for _ in range(200):
            mixes = [(rng.randint(0, 3), rng.randint(0, 3), rng.choice([1, 2])) for _ in range(rng.randint(2, 8))]
            one, other = Region(mixes[:2]), Region(mixes[rng.choice([0, 1]):])
            for region, second in ((one, other), (other, one)):
                corners = [fractions_of(corner) for corner in second.corners]
                parting = [corner for corner in region.corners if not in_hull(corners, fractions_of(corner))]
                self.assertEqual(parting_mix(region, second), parting[0] if parting else None)
                self.assertEqual(parting_mix(region, second) is None, region.within(second))
                found[bool(parting)] += 1
        self.assertGreater(min(found.values()), 50)


class LeastNumberTest(Checks):
    def test_by_hand(self):
        self.assertEqual(least_number(OVEN, "oven", (0, 0, 1)), 0)
        self.assertEqual(least_number(OVEN, "oven", (1, 0, 2)), 1)
        self.assertEqual(least_number(house=OVEN, tool="oven", mix=(2, 3, 1)), 3)
        self.assertEqual(least_number(OVEN, "oven", (2, 0, 1)), 2)
        self.assertEqual(least_number(OVEN, "oven", (7, 0, 2), most=4), 4)
        self.assertIsNone(least_number(OVEN, "oven", (7, 0, 2)))
        self.assertEqual(least_number(OVEN, "oven", (3, 0, 1)), 3)
        self.assertIsNone(least_number(OVEN, "oven", (3, 0, 1), most=2))
        self.assertIsNone(least_number(OVEN, "oven", (1, 0, 9), most=0))
        self.assertEqual(least_number(OVEN, "oven", (0, 0, 9), most=0), 0)
        self.assertIsNone(least_number(OVEN, "oven", (-1, 0, 1)))
        self.assertEqual(OVEN.numbers, (1,))

    def test_random_houses(self):
        found = {}
        for rng, house in small_houses(345, 40, most=12, top=1):
            tool = rng.choice(house.tools)
            mix = rng.choice(mixes_within(rng, region_of(house.with_number(tool, rng.choice([1, 2])))))
            mix = (mix[0] * rng.choice([1, 1, 2]), mix[1], mix[2])
            expected = [number for number in range(3)
                        if in_hull([fractions_of(corner) for corner in region_of(house.with_number(tool, number)).corners], fractions_of(mix))]
            least = least_number(house, tool, mix, most=2)
            self.assertEqual(least, expected[0] if expected else None)
            found[least] = found.get(least, 0) + 1
        self.assertGreater(min(found.get(least, 0) for least in (None, 0, 1, 2)), 1)

    def test_other_tools_stay_as_they_are(self):
        house = House([("a", 1), ("b", 2)], [Session("one", [(0, "a", 1), (0, "b", 1)], first=1)])
        self.assertEqual(least_number(house, "a", (2, 0, 1)), 2)
        self.assertIsNone(least_number(house, "b", (2, 0, 1)))
        with house.closed("b"):
            self.assertIsNone(least_number(house, "a", (2, 0, 1)))
            self.assertEqual(least_number(house, "b", (1, 0, 1)), 1)
        self.assertEqual(house.numbers, (1, 2))

    def test_refused(self):
        self.refused(UnknownTool, {"tool": "pan"}, least_number, OVEN, "pan", (1, 1, 0))
        self.refused(UnknownTool, {"tool": "pan"}, least_number, OVEN, "pan", (1, 1, 1))
        for mix in ((1, 1, 0), (-1, -1, -2)):
            self.refused(InvalidMix, {"mix": mix}, least_number, OVEN, "oven", mix)
        with self.assertRaises(TypeError):
            least_number(OVEN, "oven", (1, 1, 1), 3)


if __name__ == "__main__":
    unittest.main()
