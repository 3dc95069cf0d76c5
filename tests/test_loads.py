"""Point 60: loads."""

import inspect
import random
import unittest

from playhall.houseerrors import NoSession, NotEnough
from playhall.houses import House
from playhall.loads import after_beat, after_start, all_loads, empty_load, steps
from playhall.sessions import Session
from tests.helpers import Checks, plain_beat, plain_loads, plain_step, random_house, small_houses

BAKE = Session("bake", [(0, "oven", 1), (2, "table", 2)], first=3)
COOL = Session("cool", [(1, "table", 1), (1, "oven", 1)], second=2)
HOUSE = House([("table", 3), ("oven", 1)], [BAKE, COOL])


def random_load(rng, house, top):
    return tuple(tuple(rng.randint(0, top) for _ in house.tools) for _ in range(house.horizon))


class LoadTest(Checks):
    def test_the_empty_load(self):
        self.assertEqual(empty_load(HOUSE), ((0, 0), (0, 0), (0, 0)))
        self.assertEqual(empty_load(house=House([], [])), ((),))
        self.assertEqual(empty_load(House([("a", 1)], [])), ((0,),))

    def test_a_beat(self):
        self.assertEqual(after_beat(((1, 2), (3, 4), (5, 6))), ((3, 4), (5, 6), (0, 0)))
        self.assertEqual(after_beat(load=((7,),)), ((0,),))
        self.assertEqual(after_beat(((), ())), ((), ()))

    def test_a_start(self):
        empty = empty_load(HOUSE)
        one = after_start(HOUSE, empty, 0)
        self.assertEqual(one, ((0, 1), (0, 0), (2, 0)))
        self.assertEqual(after_start(house=HOUSE, load=one, index=1), ((0, 1), (1, 1), (2, 0)))
        self.assertEqual(empty, empty_load(HOUSE))
        # The load need not be reachable.
        self.assertEqual(after_start(HOUSE, ((100000, 0), (100000, 1), (1, 100000)), 0),
                         ((100000, 1), (100000, 1), (3, 100000)))

    def test_no_session(self):
        for index in (-1, -2, 2, 10 ** 9):
            self.refused(NoSession, {"index": index}, after_start, HOUSE, empty_load(HOUSE), index)
        self.refused(NoSession, {"index": 0}, after_start, House([], []), ((),), 0)
        # Before what is not enough.
        self.refused(NoSession, {"index": 2}, after_start, HOUSE, ((9, 9), (9, 9), (9, 9)), 2)

    def test_not_enough(self):
        for load, beat, tool in (
                (((0, 1), (0, 0), (0, 0)), 0, "oven"), (((0, 0), (0, 0), (2, 0)), 2, "table"), (((9, 9), (9, 9), (9, 9)), 0, "oven"),
                (((9, 0), (9, 9), (9, 9)), 2, "table")):
            self.refused(NotEnough, {"beat": beat, "tool": tool}, after_start, HOUSE, load, 0)
        # In the order of the needs, which are ordered by their tools within a beat.
        self.refused(NotEnough, {"beat": 1, "tool": "oven"}, after_start, HOUSE, ((0, 0), (3, 1), (0, 0)), 1)
        self.refused(NotEnough, {"beat": 1, "tool": "table"}, after_start, HOUSE, ((0, 0), (3, 0), (0, 0)), 1)

    def test_random(self):
        rng = random.Random(281)
        found = {True: 0, False: 0}
        for _ in range(200):
            house = random_house(rng, tools=rng.randint(1, 3), top=3)
            load = random_load(rng, house, 2)
            expected = []
            for index, session in enumerate(house.menu):
                after = plain_step(house, load, index)
                found[after is None] += 1
                if after is None:
                    lacks = [(beat, tool) for beat, tool, amount in session.needs
                             if load[beat][house.tools.index(tool)] + amount > house.number_of(tool)]
                    self.refused(NotEnough, {"beat": lacks[0][0], "tool": lacks[0][1]}, after_start, house, load, index)
                else:
                    self.assertEqual(after_start(house, load, index), after)
                    expected.append((index, after))
            self.assertEqual(list(steps(house, load)), [*expected, (None, plain_beat(house, load))])
        self.assertGreater(min(found.values()), 50)

    def test_steps(self):
        self.assertTrue(inspect.isgeneratorfunction(steps))
        found = list(steps(HOUSE, empty_load(HOUSE)))
        self.assertEqual(found, [(0, ((0, 1), (0, 0), (2, 0))), (1, ((0, 0), (1, 1), (0, 0))), (None, ((0, 0),) * 3)])
        self.assertEqual(list(steps(house=House([], []), load=((),))), [(None, ((),))])
        twice = House([("table", 3), ("oven", 1)], [BAKE, BAKE])
        self.assertEqual([index for index, _ in steps(twice, empty_load(twice))], [0, 1, None])


class AllLoadsTest(unittest.TestCase):
    def judge(self, house):
        found = all_loads(house)
        self.assertIsInstance(found, list)
        self.assertEqual(len(found), len(set(found)))
        self.assertEqual(sorted(found), sorted(plain_loads(house)))

    def test_random_houses(self):
        for _, house in small_houses(282, 60, most=100):
            self.judge(house)

    def test_by_hand(self):
        house = House([("oven", 2)], [Session("a", [(1, "oven", 1)])])
        self.assertEqual(sorted(all_loads(house=house)), [
            ((0,), (0,)), ((0,), (1,)), ((0,), (2,)), ((1,), (0,)), ((1,), (1,)), ((1,), (2,)), ((2,), (0,)), ((2,), (1,)), ((2,), (2,))])
        self.assertEqual(all_loads(House([], [])), [((),)])
        self.assertEqual(all_loads(House([("a", 5)], [])), [((0,),)])

    def test_a_closed_tool(self):
        for rng, house in small_houses(283, 20, most=60):
            with house.closed(rng.choice(house.tools)):
                self.judge(house)
        with HOUSE.closed("oven"):
            self.assertEqual(all_loads(HOUSE), [empty_load(HOUSE)])

    def test_a_long_session(self):
        # Two of the beats are any number of beats apart, so that no two of these sessions overlap.
        needs = [(beat, "a", 100000) for beat in [*range(10), *range(10, 101, 10)]]
        house = House([("a", 100000), ("b", 5)], [Session("long", [*needs, (100, "b", 1)])])
        self.judge(house)
        self.assertEqual((len(empty_load(house)), len(all_loads(house))), (101, 102))


if __name__ == "__main__":
    unittest.main()
