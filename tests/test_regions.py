"""Points 56 and 62: the regions of houses, and rings with their corners as means."""

import random
import unittest
from itertools import product

from playhall.houses import House
from playhall.mixes import lowest
from playhall.polygons import Region
from playhall.regions import best_ring, corner_rings, region_of
from playhall.sessions import Session
from tests.helpers import (
    bound_value, fractions_of, in_hull, plain_lack, plain_loads, plain_prices, plain_totals, small_houses, still_window)

DIRECTIONS = [(0, 0), (1, 0), (0, 1), (-1, 0), (0, -1), (2, 3), (-3, 2), (-1, -4), (5, -1)]


def small_rings(house, most=2):
    """All legal rings of one and two windows with few starts."""
    windows = list(product(range(most + 1), repeat=len(house.menu)))
    for length in (1, 2):
        for ring in product(windows, repeat=length):
            if plain_lack(house, ring, ring=True) is None:
                yield list(ring)


class RegionsTest(unittest.TestCase):
    def judge_ring(self, house, ring, count):
        self.assertIsInstance(ring, list)
        self.assertTrue(all(isinstance(window, tuple) and len(window) == len(house.menu) for window in ring))
        self.assertTrue(all(times >= 0 for window in ring for times in window))
        self.assertIsNone(plain_lack(house, ring, ring=True))
        self.assertTrue(1 <= len(ring) <= count)

    def judge(self, house):
        """Judges the region of a house. It is not too large, since a legal ring has each corner as its mean, and not
        too small, since each edge is a bound that no walk through the loads beats for ever."""
        region, rings = region_of(house), corner_rings(house)
        count = len(plain_loads(house))
        self.assertIsInstance(region, Region)
        self.assertEqual(len(rings), len(region.corners))
        for corner, ring in zip(region.corners, rings):
            self.judge_ring(house, ring, count)
            self.assertEqual(lowest(plain_totals(house, ring)), corner)
        for edge in region.edges:
            self.assertIsNotNone(plain_prices(house, edge))
        self.assertIn((0, 0, 1), region)
        for a, b in DIRECTIONS:
            ring = best_ring(house, a, b)
            self.judge_ring(house, ring, count)
            totals = plain_totals(house, ring)
            for corner in region.corners:
                self.assertLessEqual(bound_value((a * totals[2], b * totals[2], a * totals[0] + b * totals[1]), corner), 0)
        return region

    def test_random_houses(self):
        corners = {}
        for _, house in small_houses(321, 60, most=40):
            region = self.judge(house)
            corners[len(region.corners)] = corners.get(len(region.corners), 0) + 1
        self.assertGreater(min(corners.get(count, 0) for count in (1, 2, 3, 4)), 3)

    def test_against_an_own_search_over_small_rings(self):
        for _, house in small_houses(322, 40, most=40, beats=2):
            region = region_of(house)
            corners = [fractions_of(corner) for corner in region.corners]
            for ring in small_rings(house):
                self.assertTrue(in_hull(corners, fractions_of(plain_totals(house, ring))))

    def test_closed_tools(self):
        for rng, house in small_houses(323, 15, most=40):
            open_region = region_of(house)
            with house.closed(rng.choice(house.tools)):
                self.assertTrue(self.judge(house).within(open_region))
            self.assertEqual(region_of(house), open_region)

    def test_by_hand(self):
        # One oven. A quick session and one of two beats, which cannot overlap.
        house = House([("oven", 1)], [
            Session("quick", [(0, "oven", 1)], first=1), Session("slow", [(0, "oven", 1), (1, "oven", 1)], first=1, second=3)])
        region = self.judge(house)
        self.assertEqual(region.corners, [(0, 0, 1), (1, 0, 1), (1, 3, 2)])
        self.assertEqual(region.edges, [(0, -1, 0), (3, 1, 3), (-3, 1, 0)])
        self.assertEqual(best_ring(house=house, a=1, b=0), [(1, 0)])
        self.assertEqual(corner_rings(house=house)[:2], [[(0, 0)], [(1, 0)]])
        self.assertEqual(sorted(corner_rings(house)[2]), [(0, 0), (0, 1)])

    def test_sessions_that_fit_between_each_other(self):
        # Two of these fit together only if they are one beat apart: in each two of three beats one is started.
        house = House([("oven", 1), ("b", 9)], [Session("comb", [(0, "oven", 1), (2, "oven", 1)], first=1)])
        self.assertEqual(self.judge(house).corners, [(0, 0, 1), (1, 0, 2)])
        self.assertEqual(len([window for window in best_ring(house, 1, 0) if window == (1,)]) * 2, len(best_ring(house, 1, 0)))
        house = House([("oven", 1)], [Session("comb", [(0, "oven", 1), (1, "oven", 1), (3, "oven", 1)], first=7, second=-7)])
        self.assertEqual(self.judge(house).corners, [(0, 0, 1), (7, -7, 4)])

    def test_houses_without_tools_or_sessions(self):
        for house in (House([], []), House([("a", 5)], []), House([("a", 0)], [Session("one", [(0, "a", 1)], first=5)]),
                      House([("a", 1)], [Session("one", [(0, "a", 2)], first=5)]),
                      House([("a", 1)], [Session("one", [(3, "a", 1)], first=0)])):
            self.assertEqual(self.judge(house).corners, [(0, 0, 1)])
        self.assertEqual(best_ring(House([], []), 3, -4), [()])
        self.assertEqual(corner_rings(House([], [])), [[()]])

    def test_worths_below_0(self):
        house = House([("a", 1)], [Session("one", [(0, "a", 1)], first=-5, second=-2)])
        self.assertEqual(self.judge(house).corners, [(-5, -2, 1), (0, 0, 1)])
        self.assertEqual(best_ring(house, 1, 1), [(0,)])
        self.assertEqual(best_ring(house, -1, 0), [(1,)])

    def test_great_numbers(self):
        great = 10 ** 12
        house = House([("a", 2), ("b", 1)], [
            Session("one", [(0, "a", 1), (2, "a", 1)], first=great, second=-great), Session("two", [(0, "a", 2)], first=1 - great),
            Session("tri", [(1, "b", 1), (0, "a", 1)], second=great - 1)])
        self.judge(house)
        ring = best_ring(house, 10 ** 60, -10 ** 60)
        self.assertEqual(lowest(plain_totals(house, ring)), (great, -great, 1))

    def test_a_hundred_loads(self):
        rng = random.Random(324)
        house = House([("a", 99)], [Session("s", [(0, "a", 1)], first=rng.randint(-9, 9), second=rng.randint(-9, 9)) for _ in range(8)])
        self.assertEqual(len(plain_loads(house)), 100)
        points = [(99 * session.first, 99 * session.second, 1) for session in house.menu]
        self.assertEqual(self.judge(house), Region([*points, (0, 0, 1)]))
        needs = [(beat, "a", 1) for beat in [*range(10), *range(10, 91, 10), 98]]
        house = House([("a", 1)], [Session("long", needs, first=1)])
        self.assertEqual(len(plain_loads(house)), 100)
        self.assertEqual(self.judge(house).corners[0], (0, 0, 1))

    def test_what_is_returned_is_new(self):
        house = House([("a", 1)], [Session("one", [(0, "a", 1)], first=1)])
        for call in (lambda: best_ring(house, 1, 0), lambda: corner_rings(house), lambda: corner_rings(house)[1]):
            found = call()
            kept = list(found)
            found.clear()
            self.assertEqual(call(), kept)

    def test_the_empty_schedule_is_a_ring_of_still_windows(self):
        for _, house in small_houses(325, 5):
            self.assertIsNone(plain_lack(house, [still_window(house)], ring=True))


if __name__ == "__main__":
    unittest.main()
