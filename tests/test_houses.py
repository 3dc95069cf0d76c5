"""Point 59: houses."""

import random
import unittest

from playhall.houseerrors import InvalidHouse, UnknownTool
from playhall.houses import House, ask_closed
from playhall.sessions import Session
from tests.helpers import Checks, random_house

BAKE = Session("bake", [(0, "oven", 1), (2, "table", 2)], first=3)
COOL = Session("cool", [(1, "table", 1)], second=2)
TOOLS = [("oven", 1), ("table", 3), ("cart", 0)]


def state(house):
    return (house.tools, house.numbers, house.menu, house.horizon)


class HouseTest(Checks):
    def setUp(self):
        self.house = House(TOOLS, [BAKE, COOL])

    def test_properties(self):
        self.assertEqual(state(self.house), (("oven", "table", "cart"), (1, 3, 0), [BAKE, COOL], 3))
        self.assertEqual(House(tools=tuple(TOOLS), menu=(COOL,)).horizon, 2)
        self.assertEqual(state(House(TOOLS, [COOL, COOL])), (("oven", "table", "cart"), (1, 3, 0), [COOL, COOL], 2))

    def test_no_tools_and_no_sessions(self):
        self.assertEqual(state(House([], [])), ((), (), [], 1))
        self.assertEqual(state(House(TOOLS, [])), (("oven", "table", "cart"), (1, 3, 0), [], 1))

    def test_invalid_tools(self):
        for tools in ([("A", 1)], [("", 1)], [("a.b", 1)], [("abcdefghijklm", 1)], [("a", -1)], [("a", 1), ("a", 1)], [("a", 0), ("b", -1000)],
                      [("a", 1), ("b", 1), ("a", 2)], [("a", 1), ("b b", 1)]):
            self.refused(InvalidHouse, {}, House, tools, [])
            # Before a tool that is missing.
            self.refused(InvalidHouse, {}, House, tools, [BAKE])
        self.assertEqual(House([("abcdefghijkl", 1000)], []).numbers, (1000,))

    def test_missing_tools(self):
        self.refused(UnknownTool, {"tool": "oven"}, House, [], [BAKE])
        self.refused(UnknownTool, {"tool": "oven"}, House, [("table", 1)], [BAKE])
        self.refused(UnknownTool, {"tool": "table"}, House, [("oven", 1)], [BAKE])
        self.refused(UnknownTool, {"tool": "table"}, House, [("oven", 1)], [COOL, BAKE])
        one = Session("a", [(1, "b", 1), (0, "z", 1), (1, "a", 1)])
        self.refused(UnknownTool, {"tool": "z"}, House, [], [one])
        self.refused(UnknownTool, {"tool": "a"}, House, [("z", 1)], [one, COOL])
        self.refused(UnknownTool, {"tool": "b"}, House, [("z", 1), ("a", 0)], [one, COOL])

    def test_number_of(self):
        self.assertEqual([self.house.number_of(tool) for tool in self.house.tools], [1, 3, 0])
        self.assertEqual(self.house.number_of(tool="table"), 3)
        for tool in ("spoon", "", "bake", "Oven"):
            self.refused(UnknownTool, {"tool": tool}, self.house.number_of, tool)

    def test_with_number(self):
        before = state(self.house)
        other = self.house.with_number("table", 7)
        self.assertEqual(state(other), (("oven", "table", "cart"), (1, 7, 0), [BAKE, COOL], 3))
        self.assertEqual(self.house.with_number(tool="oven", number=0).numbers, (0, 3, 0))
        self.refused(InvalidHouse, {}, self.house.with_number, "oven", -1)
        self.refused(UnknownTool, {"tool": "spoon"}, self.house.with_number, "spoon", -1)
        self.refused(UnknownTool, {"tool": "spoon"}, self.house.with_number, "spoon", 1)
        self.assertEqual(state(self.house), before)

    def test_with_session(self):
        before = state(self.house)
        more = Session("more", [(6, "cart", 1)])
        self.assertEqual(state(self.house.with_session(more)), (("oven", "table", "cart"), (1, 3, 0), [BAKE, COOL, more], 7))
        self.assertEqual(self.house.with_session(session=COOL).menu, [BAKE, COOL, COOL])
        self.refused(UnknownTool, {"tool": "spoon"}, self.house.with_session, Session("a", [(0, "oven", 1), (0, "spoon", 1)]))
        self.assertEqual(state(self.house), before)

    def test_what_is_passed_and_then_changed(self):
        tools, menu = list(TOOLS), [BAKE]
        house = House(tools, menu)
        before = state(house)
        tools.append(("spoon", 1))
        menu.append(COOL)
        self.assertEqual(state(house), before)

    def test_what_is_returned_is_new(self):
        before = state(self.house)
        self.house.menu.append(COOL)
        self.house.menu.clear()
        self.assertEqual(state(self.house), before)
        self.assertIsInstance(self.house.tools, tuple)
        self.assertIsInstance(self.house.numbers, tuple)

    def test_houses_are_equal_only_to_themselves(self):
        self.assertEqual((self.house == self.house, self.house == House(TOOLS, [BAKE, COOL])), (True, False))


class ClosedTest(Checks):
    def setUp(self):
        self.house = House(TOOLS, [BAKE, COOL])

    def test_a_block(self):
        with self.house.closed("table") as held:
            self.assertIs(held, self.house)
            self.assertEqual(held.numbers, (1, 0, 0))
            self.assertEqual(held.number_of("table"), 0)
            self.assertEqual((held.tools, held.menu, held.horizon), (("oven", "table", "cart"), [BAKE, COOL], 3))
        self.assertEqual(self.house.numbers, (1, 3, 0))
        with self.house.closed(tool="cart"):
            self.assertEqual(self.house.numbers, (1, 3, 0))
        self.assertEqual(self.house.numbers, (1, 3, 0))

    def test_only_the_block_closes(self):
        block = self.house.closed("oven")
        self.assertEqual(self.house.numbers, (1, 3, 0))
        with block:
            self.assertEqual(self.house.numbers, (0, 3, 0))
        self.assertEqual(self.house.numbers, (1, 3, 0))

    def test_the_call_itself_refuses(self):
        self.refused(UnknownTool, {"tool": "spoon"}, self.house.closed, "spoon")
        with self.assertRaises(UnknownTool):
            with self.house.closed("oven"), self.house.closed("spoon"):
                self.fail("the block is not entered")
        self.assertEqual(self.house.numbers, (1, 3, 0))

    def test_nested_blocks(self):
        with self.house.closed("table"):
            with self.house.closed("oven"):
                self.assertEqual(self.house.numbers, (0, 0, 0))
                with self.house.closed("table"):
                    self.assertEqual(self.house.numbers, (0, 0, 0))
                self.assertEqual(self.house.numbers, (0, 0, 0))
            self.assertEqual(self.house.numbers, (1, 0, 0))
        self.assertEqual(self.house.numbers, (1, 3, 0))
        with self.house.closed("table"), self.house.closed("table"):
            self.assertEqual(self.house.numbers, (1, 0, 0))
        self.assertEqual(self.house.numbers, (1, 3, 0))

    def test_one_block_object_several_times(self):
        block = self.house.closed("table")
        with block:
            with block:
                self.assertEqual(self.house.numbers, (1, 0, 0))
            self.assertEqual(self.house.numbers, (1, 0, 0))
        self.assertEqual(self.house.numbers, (1, 3, 0))

    def test_errors_that_leave_the_block(self):
        for error in (ValueError("own"), KeyboardInterrupt(), KeyError("k"), UnknownTool("x")):
            with self.assertRaises(error.__class__) as caught:
                with self.house.closed("oven"):
                    with self.house.closed("table"):
                        raise error
            self.assertIs(caught.exception, error)
            self.assertEqual(self.house.numbers, (1, 3, 0))

    def test_an_error_within_an_outer_block(self):
        with self.house.closed("oven"):
            with self.assertRaises(KeyError):
                with self.house.closed("table"):
                    raise KeyError
            self.assertEqual(self.house.numbers, (0, 3, 0))

    def test_houses_that_are_made_in_a_block_keep_the_numbers(self):
        with self.house.closed("table"):
            more = self.house.with_number("cart", 5)
            longer = self.house.with_session(COOL)
            opened = self.house.with_number("table", 9)
        self.assertEqual((more.numbers, longer.numbers, opened.numbers), ((1, 0, 5), (1, 0, 0), (1, 9, 0)))
        with more.closed("cart"):
            self.assertEqual((more.numbers, self.house.numbers), ((1, 0, 0), (1, 3, 0)))

    def test_ask_closed(self):
        seen = []

        def question(held):
            seen.append((held, held.numbers))
            return held.numbers, "more"

        self.assertEqual(ask_closed(self.house, "oven", question), ((0, 3, 0), "more"))
        self.assertIs(seen[0][0], self.house)
        self.assertEqual(self.house.numbers, (1, 3, 0))
        self.assertEqual(ask_closed(house=self.house, tool="table", question=lambda held: held.number_of("table")), 0)
        self.refused(UnknownTool, {"tool": "spoon"}, ask_closed, self.house, "spoon", question)
        self.assertEqual(len(seen), 1)

    def test_ask_closed_with_an_error(self):
        def question(held):
            ask_closed(held, "table", lambda inner: inner.number_of("table"))
            self.assertEqual(held.numbers, (0, 3, 0))
            held.number_of("spoon")

        self.refused(UnknownTool, {"tool": "spoon"}, ask_closed, self.house, "oven", question)
        self.assertEqual(self.house.numbers, (1, 3, 0))

    def test_random_blocks(self):
        rng = random.Random(271)
        for _ in range(50):
            house = random_house(rng, tools=3)

            def deep(closed):
                self.assertEqual(house.numbers, tuple(0 if tool in closed else number for tool, number in full))
                if len(closed) < 4:
                    tool = rng.choice(house.tools)
                    with house.closed(tool):
                        deep([*closed, tool])
                    self.assertEqual(house.numbers, tuple(0 if tool in closed else number for tool, number in full))

            full = list(zip(house.tools, house.numbers))
            deep([])


if __name__ == "__main__":
    unittest.main()
