"""Point 61: schedules and rings."""

import random
import unittest

from playhall.houseerrors import InvalidSchedule
from playhall.houses import House
from playhall.mixes import lowest
from playhall.schedules import first_lack, ring_lack, ring_mean, schedule_totals
from playhall.sessions import Session
from tests.helpers import Checks, plain_lack, plain_totals, random_house

BAKE = Session("bake", [(0, "oven", 1), (2, "table", 2)], first=3, second=-1)
COOL = Session("cool", [(1, "table", 1), (1, "oven", 1)], second=2)
HOUSE = House([("table", 3), ("oven", 2)], [BAKE, COOL])
ALL = (first_lack, schedule_totals, ring_lack, ring_mean)


def random_schedule(rng, house, length, top=2):
    return [tuple(rng.choice([0, 0, rng.randint(0, top)]) for _ in house.menu) for _ in range(length)]


class InvalidTest(Checks):
    def test_bad_windows(self):
        for call in ALL:
            for window in ((), (1,), (0, 0, 0), (1, -1), (-1, 0), (-1, -1), (0, 0, -1)):
                self.refused(InvalidSchedule, {"beat": 0}, call, HOUSE, [window])
                self.refused(InvalidSchedule, {"beat": 0}, call, HOUSE, [window, (0, 0), ()])
                # Before what is not enough.
                self.refused(InvalidSchedule, {"beat": 2}, call, HOUSE, [(9, 9), (0, 0), window, (0, -1)])
                self.refused(InvalidSchedule, {"beat": 1}, call, HOUSE, ((0, 0), window))

    def test_the_empty_ring(self):
        self.refused(InvalidSchedule, {"beat": 0}, ring_lack, HOUSE, [])
        self.refused(InvalidSchedule, {"beat": 0}, ring_mean, HOUSE, ())
        self.refused(InvalidSchedule, {"beat": 0}, ring_mean, House([], []), [])

    def test_houses_without_sessions(self):
        house = House([("a", 0)], [])
        self.refused(InvalidSchedule, {"beat": 1}, first_lack, house, [(), (0,)])
        self.assertIsNone(first_lack(house, [(), ()]))
        self.assertEqual((schedule_totals(house, [()] * 4), ring_lack(house, [()]), ring_mean(house, [()] * 3)),
                         ((0, 0, 4), None, (0, 0, 1)))


class ScheduleTest(unittest.TestCase):
    def test_the_empty_schedule(self):
        self.assertIsNone(first_lack(HOUSE, []))
        self.assertEqual(schedule_totals(HOUSE, []), (0, 0, 0))
        self.assertIsNone(first_lack(House([], []), ()))

    def test_lacks(self):
        self.assertIsNone(first_lack(house=HOUSE, schedule=[(1, 1), (1, 0)]))
        self.assertEqual(first_lack(HOUSE, [(3, 0)]), (0, "oven"))
        # In a beat after the end.
        self.assertEqual(first_lack(HOUSE, [(2, 0)]), (2, "table"))
        self.assertEqual(first_lack(HOUSE, [(0, 0), (0, 0), (0, 3)]), (3, "oven"))
        # The first tool of the house, not that of the needs; the first beat before it.
        self.assertEqual(first_lack(HOUSE, [(0, 4)]), (1, "table"))
        self.assertEqual(first_lack(HOUSE, [(1, 0), (0, 2)]), (2, "table"))
        self.assertEqual(first_lack(HOUSE, [(1, 0), (2, 1), (0, 0)]), (3, "table"))
        self.assertEqual(first_lack(HOUSE, [(2, 2), (2, 0)]), (1, "oven"))

    def test_totals(self):
        self.assertEqual(schedule_totals(house=HOUSE, schedule=((1, 2), (0, 0), (3, 1))), (12, 2, 3))
        self.assertEqual(schedule_totals(HOUSE, [(1000, 1000)] * 2), (6000, 2000, 2))
        self.assertEqual(schedule_totals(HOUSE, [(0, 0)]), (0, 0, 1))

    def test_random(self):
        rng = random.Random(301)
        found = {True: 0, False: 0}
        for _ in range(300):
            house = random_house(rng, tools=rng.randint(1, 3), sessions=rng.randint(1, 4), top=4)
            schedule = random_schedule(rng, house, rng.randint(0, 5))
            kept = list(schedule)
            lack = first_lack(house, schedule)
            self.assertEqual(lack, plain_lack(house, schedule))
            self.assertEqual(schedule_totals(house, schedule), plain_totals(house, schedule))
            self.assertEqual(schedule, kept)
            found[lack is None] += 1
        self.assertGreater(min(found.values()), 80)

    def test_closed_tools(self):
        with HOUSE.closed("table"):
            self.assertEqual(first_lack(HOUSE, [(1, 0)]), (2, "table"))
            self.assertEqual(ring_lack(HOUSE, [(1, 0)]), (0, "table"))
            self.assertIsNone(first_lack(HOUSE, [(0, 0)]))
        self.assertIsNone(first_lack(HOUSE, [(1, 0)]))

    def test_3000_windows(self):
        needs = [(beat, tool, 100000) for beat in range(0, 100, 10) for tool in ("table", "oven")]
        house = House([("table", 10 ** 9), ("oven", 10 ** 9 - 1)], [Session("a", needs, first=10 ** 12)])
        self.assertEqual(first_lack(house, [(1000,)] * 3000), (90, "oven"))
        self.assertIsNone(first_lack(house, [(999,)] * 3000))
        self.assertEqual(schedule_totals(house, [(1000,)] * 3000), (3 * 10 ** 18, 0, 3000))


class RingTest(unittest.TestCase):
    def test_one_window_with_needs_that_go_round(self):
        # All needs come at beat 0 of a ring of one window.
        house = House([("oven", 5), ("table", 2)], [Session("a", [(0, "oven", 1), (1, "oven", 1), (7, "oven", 3), (3, "table", 2)])])
        self.assertIsNone(ring_lack(house, [(1,)]))
        self.assertEqual(ring_lack(house, [(2,)]), (0, "oven"))
        self.assertEqual(ring_lack(house.with_number("oven", 4), [(1,)]), (0, "oven"))
        self.assertEqual(ring_lack(house.with_number("table", 1), [(1,)]), (0, "table"))
        # In a ring of two windows the beats 1, 3 and 7 come together.
        self.assertEqual(ring_lack(house.with_number("oven", 3), [(1,), (0,)]), (1, "oven"))
        self.assertEqual(ring_lack(house.with_number("oven", 3), [(0,), (1,)]), (0, "oven"))
        self.assertIsNone(ring_lack(house.with_number("oven", 4), [(0,), (1,)]))
        self.assertIsNone(ring_lack(house.with_number("oven", 4), [(0,), (1,), (0,)]))

    def test_the_first_beat_and_then_the_first_tool(self):
        self.assertEqual(ring_lack(house=HOUSE, ring=[(0, 3), (0, 0)]), (1, "oven"))
        self.assertEqual(ring_lack(HOUSE, [(0, 4), (0, 0)]), (1, "table"))
        self.assertEqual(ring_lack(HOUSE, ((0, 0), (0, 4))), (0, "table"))
        self.assertEqual(ring_lack(HOUSE, [(2, 4), (0, 0)]), (0, "table"))

    def test_means(self):
        self.assertEqual(ring_mean(house=HOUSE, ring=[(1, 0), (1, 2)]), (3, 1, 1))
        self.assertEqual(ring_mean(HOUSE, [(0, 0)] * 7), (0, 0, 1))
        self.assertEqual(ring_mean(HOUSE, [(2, 1), (0, 0), (0, 0), (0, 0)]), (3, 0, 2))
        # The ring need not be legal.
        self.assertEqual(ring_mean(HOUSE, [(1000, 1000), (0, 0)]), (1500, 500, 1))

    def test_random(self):
        rng = random.Random(302)
        found = {True: 0, False: 0}
        for _ in range(300):
            house = random_house(rng, tools=rng.randint(1, 3), sessions=rng.randint(1, 4), beats=5, top=4)
            ring = random_schedule(rng, house, rng.randint(1, 4))
            lack = ring_lack(house, ring)
            self.assertEqual(lack, plain_lack(house, ring, ring=True))
            self.assertEqual(ring_mean(house, ring), lowest(plain_totals(house, ring)))
            if lack is None:
                # However often it is repeated.
                self.assertIsNone(first_lack(house, ring * 5))
            else:
                self.assertIsNotNone(first_lack(house, ring * 20))
            found[lack is None] += 1
        self.assertGreater(min(found.values()), 80)


if __name__ == "__main__":
    unittest.main()
