"""Point 65: bounds of houses, prices of loads, the slack and tight schedules."""

import unittest
from itertools import product

from playhall.houseerrors import Beaten
from playhall.houses import House
from playhall.prices import price_list, tight_schedule
from playhall.regions import region_of
from playhall.sessions import Session
from tests.helpers import (
    Checks, bound_value, plain_beat, plain_lack, plain_loads, plain_prices, plain_step, plain_totals, small_houses)

OVEN = House([("oven", 1)], [
    Session("quick", [(0, "oven", 1)], first=1), Session("slow", [(0, "oven", 1), (1, "oven", 1)], first=1, second=3)])


def bounds_for(rng, house):
    """Bounds that hold just so or more, and bounds that do not hold."""
    edges = region_of(house).edges
    found = []
    for a, b, c in [*rng.sample(edges, min(2, len(edges))), (rng.randint(-3, 3), rng.randint(-3, 3), rng.randint(-4, 12))]:
        times = rng.choice([1, 3])
        found.extend([(a * times, b * times, c * times), (a, b, c + rng.randint(1, 3)), (a, b, c - 1)])
    return [*found, (0, 0, 0), (0, 0, 2), (0, 0, -1)]


class PricesTest(Checks):
    def judge_prices(self, house, bound, expected):
        """Judges the prices and the slack of a bound that holds."""
        a, b, c = bound
        slack, prices = price_list(house, bound)
        self.assertEqual(prices, expected)
        self.assertIsInstance(prices, dict)
        loads = plain_loads(house)
        self.assertEqual(sorted(prices), sorted(loads))
        for load, price in prices.items():
            self.assertGreaterEqual(price, 0)
            self.assertGreaterEqual(price, prices[plain_beat(house, load)] - c)
            for index, session in enumerate(house.menu):
                behind = plain_step(house, load, index)
                if behind is not None:
                    self.assertGreaterEqual(price, prices[behind] + a * session.first + b * session.second)
        self.assertEqual(slack, max(0, prices[loads[0]] - c))
        self.judge_tight(house, bound, slack, len(loads))

    def judge_tight(self, house, bound, slack, count):
        schedule = tight_schedule(house, bound)
        self.assertIsInstance(schedule, list)
        self.assertLessEqual(len(schedule), count)
        self.assertTrue(all(isinstance(window, tuple) and min(window, default=0) >= 0 for window in schedule))
        self.assertIsNone(plain_lack(house, schedule))
        self.assertEqual(bound_value(bound, plain_totals(house, schedule)), slack)

    def judge_beaten(self, house, bound):
        for call in (price_list, tight_schedule):
            with self.assertRaises(Beaten) as caught:
                call(house, bound)
            self.assertIs(caught.exception.__class__, Beaten)
            self.assertEqual(list(vars(caught.exception)), ["ring"])
            ring = caught.exception.ring
            self.assertIsInstance(ring, list)
            self.assertTrue(1 <= len(ring) <= len(plain_loads(house)))
            self.assertTrue(all(isinstance(window, tuple) and len(window) == len(house.menu) for window in ring))
            self.assertIsNone(plain_lack(house, ring, ring=True))
            self.assertGreater(bound_value(bound, plain_totals(house, ring)), 0)

    def judge(self, house, bound):
        expected = plain_prices(house, bound)
        holds = all(bound_value(bound, corner) <= 0 for corner in region_of(house).corners)
        self.assertEqual(holds, expected is not None)
        if expected is None:
            self.judge_beaten(house, bound)
        else:
            self.judge_prices(house, bound, expected)
        return expected is not None

    def test_random_houses(self):
        found = {True: 0, False: 0}
        slacks = {}
        for rng, house in small_houses(331, 60, most=30):
            for bound in bounds_for(rng, house):
                holds = self.judge(house, bound)
                found[holds] += 1
                if holds:
                    slack = price_list(house, bound)[0] > 0
                    slacks[slack] = slacks.get(slack, 0) + 1
        self.assertGreater(min(found.values()), 100)
        self.assertGreater(min(slacks.values()), 20)

    def test_no_short_schedule_has_more_than_the_slack(self):
        for rng, house in small_houses(332, 25, most=30, sessions=2):
            for bound in bounds_for(rng, house):
                if plain_prices(house, bound) is not None:
                    slack, _ = price_list(house, bound)
                    windows = list(product(range(3), repeat=2))
                    for schedule in [(), *product(windows), *product(windows, windows)]:
                        if plain_lack(house, schedule) is None:
                            self.assertLessEqual(bound_value(bound, plain_totals(house, schedule)), slack)

    def test_no_short_sequence_of_steps_counts_more_than_the_price(self):
        for rng, house in small_houses(333, 15, most=20, sessions=2):
            for bound in bounds_for(rng, house):
                if plain_prices(house, bound) is not None:
                    _, prices = price_list(house, bound)
                    level = {(load, 0) for load in prices}
                    starts = {(load, load, 0) for load in prices}
                    for _ in range(4):
                        behind = set()
                        for first, load, total in starts:
                            self.assertLessEqual(total, prices[first])
                            behind.add((first, plain_beat(house, load), total - bound[2]))
                            for index, session in enumerate(house.menu):
                                other = plain_step(house, load, index)
                                if other is not None:
                                    gain = bound[0] * session.first + bound[1] * session.second
                                    behind.add((first, other, total + gain))
                        starts = behind
                    self.assertTrue(level)

    def test_by_hand(self):
        # In each beat the oven brings at most 1 of the first worth. A slow session brings it before its second beat.
        slack, prices = price_list(OVEN, (1, 0, 1))
        self.assertEqual((slack, prices), (0, {((0,), (0,)): 1, ((1,), (0,)): 0, ((1,), (1,)): 0}))
        self.assertEqual(tight_schedule(OVEN, (1, 0, 1)) in ([], [(1, 0)]), True)
        slack, prices = price_list(house=OVEN, bound=(0, 2, 3))
        self.assertEqual((slack, prices), (3, {((0,), (0,)): 6, ((1,), (0,)): 3, ((1,), (1,)): 0}))
        self.assertEqual(tight_schedule(house=OVEN, bound=(0, 2, 3)), [(0, 1)])
        # What the ring brings as a mean: 3 in two beats.
        self.judge_beaten(OVEN, (0, 2, 2))
        self.assertEqual(price_list(OVEN, (0, 2, 6))[0], 0)
        self.assertEqual(price_list(OVEN, (0, 2, 7)), (0, {((0,), (0,)): 6, ((1,), (0,)): 0, ((1,), (1,)): 0}))

    def test_bounds_without_a_direction(self):
        for house in (OVEN, House([], []), House([("a", 3)], []), House([("a", 0)], [Session("one", [(0, "a", 1)], first=1)])):
            for c in (0, 1, 10 ** 60):
                slack, prices = price_list(house, (0, 0, c))
                self.assertEqual((slack, set(prices.values())), (0, {0}))
                self.judge_tight(house, (0, 0, c), 0, len(prices))
            for c in (-1, -10 ** 60):
                self.judge_beaten(house, (0, 0, c))

    def test_houses_without_tools_or_sessions(self):
        for house in (House([], []), House([("a", 3)], [])):
            self.assertEqual(price_list(house, (5, -7, 0)), (0, {plain_loads(house)[0]: 0}))
            self.assertEqual(plain_lack(house, tight_schedule(house, (5, -7, 0))), None)
            with self.assertRaises(Beaten) as caught:
                price_list(house, (5, -7, -1))
            self.assertEqual(caught.exception.ring, [()])

    def test_a_slack_that_needs_many_windows(self):
        # Before a dear session can be started, two cheap ones that cost something must have gone: the load does not tell.
        house = House([("a", 2), ("b", 1)], [
            Session("one", [(0, "a", 1), (4, "b", 1)], first=3), Session("two", [(0, "b", 1)], second=2)])
        for bound in ((1, 1, 3), (1, 0, 3), (2, 1, 5), (1, 2, 4), (1, 1, 4)):
            self.judge(house, bound)

    def test_closed_tools(self):
        with OVEN.closed("oven"):
            self.assertEqual(price_list(OVEN, (1, 1, 0)), (0, {((0,), (0,)): 0}))
        self.judge_beaten(OVEN, (1, 1, 0))

    def test_great_numbers(self):
        great = 10 ** 60
        self.judge_beaten(OVEN, (great, great, 0))
        slack, prices = price_list(OVEN, (great, 0, great))
        self.assertEqual((slack, prices[((0,), (0,))]), (0, great))
        self.judge_tight(OVEN, (great // 4, great // 4, great), price_list(OVEN, (great // 4, great // 4, great))[0], 4)

    def test_a_hundred_loads(self):
        house = House([("a", 99)], [Session("one", [(0, "a", 1)], first=2), Session("two", [(0, "a", 7)], second=13)])
        for bound in ((1, 1, 198), (1, 1, 197), (1, 0, 198), (3, 2, 594), (0, 1, 182)):
            self.judge(house, bound)

    def test_what_is_returned_is_new(self):
        slack, prices = price_list(OVEN, (0, 2, 3))
        prices.clear()
        self.assertEqual(len(price_list(OVEN, (0, 2, 3))[1]), 3)
        tight_schedule(OVEN, (0, 2, 3)).append(None)
        self.assertEqual(tight_schedule(OVEN, (0, 2, 3)), [(0, 1)])


if __name__ == "__main__":
    unittest.main()
