"""Point 57: sessions."""

import random
import unittest

from playhall.houseerrors import InvalidSession
from playhall.sessions import Session
from tests.helpers import Checks


def state(session):
    return (session.name, session.first, session.second, session.needs)


def merged(needs):
    sums = {}
    for beat, tool, amount in needs:
        sums[(beat, tool)] = sums.get((beat, tool), 0) + amount
    return tuple((*key, sums[key]) for key in sorted(sums))


def random_needs(rng):
    return [(rng.randrange(4), rng.choice(["b", "a", "ab"]), rng.randint(1, 3)) for _ in range(rng.randint(1, 8))]


class SessionTest(Checks):
    def test_attributes(self):
        session = Session("bake", [(2, "oven", 1), (0, "table", 2), (0, "oven", 3)])
        self.assertEqual(state(session), ("bake", 0, 0, ((0, "oven", 3), (0, "table", 2), (2, "oven", 1))))
        self.assertEqual((session.duration, session.pair), (3, (0, 0)))
        session = Session(name="a", needs=((5, "b", 1),), first=-7, second=10 ** 12)
        self.assertEqual(state(session), ("a", -7, 10 ** 12, ((5, "b", 1),)))
        self.assertEqual((session.duration, session.pair), (6, (-7, 10 ** 12)))

    def test_worths_are_passed_by_name_only(self):
        with self.assertRaises(TypeError):
            Session("a", [(0, "b", 1)], 1, 2)

    def test_needs_in_any_order_are_merged(self):
        session = Session("a", [(1, "b", 2), (0, "c", 1), (1, "a", 1), (1, "b", 3), (0, "c", 4)])
        self.assertEqual(session.needs, ((0, "c", 5), (1, "a", 1), (1, "b", 5)))
        # Tools are ordered as strings, beats as numbers.
        self.assertEqual(Session("a", [(10, "b", 1), (9, "z", 1), (9, "ab", 1)]).needs,
                         ((9, "ab", 1), (9, "z", 1), (10, "b", 1)))
        rng = random.Random(251)
        for _ in range(100):
            needs = random_needs(rng)
            kept = list(needs)
            session = Session("a", needs)
            self.assertEqual(session.needs, merged(needs))
            self.assertEqual(session.duration, 1 + max(need[0] for need in needs))
            self.assertEqual(needs, kept)

    def test_invalid(self):
        good = (0, "oven", 1)
        for name in ("", "A", "a.b", "a b", "a1", "abcdefghijklm", " a", "-"):
            self.refused(InvalidSession, {}, Session, name, [good])
            self.refused(InvalidSession, {}, Session, "a", [good, (0, name, 1)])
        for needs in ([], (), [(-1, "oven", 1)], [(0, "oven", 0)], [(0, "oven", -1)], [good, (0, "oven", 0)],
                      [(0, "oven", 5), (0, "oven", -1)], [good, (-1, "b", 1), good]):
            self.refused(InvalidSession, {}, Session, "a", needs)
        self.assertEqual(Session("abcdefghijkl", [(0, "abcdefghijkl", 1)]).needs, ((0, "abcdefghijkl", 1),))

    def test_what_is_passed_and_then_changed(self):
        needs = [(0, "a", 1)]
        session = Session("a", needs)
        needs.append((1, "b", 2))
        self.assertEqual(session.needs, ((0, "a", 1),))

    def test_limits(self):
        needs = [(beat, tool, 100000) for beat in range(100, 40, -6) for tool in ("a", "b", "c", "d", "e", "f")]
        session = Session("a", needs, first=-10 ** 12, second=10 ** 12)
        self.assertEqual((len(session.needs), session.duration), (60, 101))


class OperatorTest(Checks):
    def setUp(self):
        self.session = Session("bake", [(0, "oven", 1), (2, "table", 2)], first=3, second=-1)

    def test_later_and_earlier(self):
        for beats, expected in ((0, (0, 2)), (1, (1, 3)), (97, (97, 99))):
            later = self.session << beats
            self.assertEqual(state(later), ("bake", 3, -1, ((expected[0], "oven", 1), (expected[1], "table", 2))))
            self.assertEqual(state(later << -beats), state(self.session))
            self.refused(InvalidSession, {}, lambda: later << -beats - 1)
        self.refused(InvalidSession, {}, lambda: self.session << -1)
        self.refused(InvalidSession, {}, lambda: self.session << -3)
        self.assertEqual(state(self.session), ("bake", 3, -1, ((0, "oven", 1), (2, "table", 2))))

    def test_together(self):
        other = Session("cool", [(2, "table", 1), (1, "a", 1), (0, "oven", 4)], first=-5, second=10)
        both = self.session | other
        self.assertIsInstance(both, Session)
        self.assertEqual(state(both), ("bake", -2, 9, ((0, "oven", 5), (1, "a", 1), (2, "table", 3))))
        self.assertEqual((other | self.session).name, "cool")
        self.assertEqual((other | self.session).needs, both.needs)
        self.assertEqual(state(self.session | self.session), ("bake", 6, -2, ((0, "oven", 2), (2, "table", 4))))
        self.assertEqual(state(other), ("cool", -5, 10, ((0, "oven", 4), (1, "a", 1), (2, "table", 1))))

    def test_reversed(self):
        self.assertEqual(state(~self.session), ("bake", 3, -1, ((0, "table", 2), (2, "oven", 1))))
        # Beats without needs at the beginning come last, and are no part of the length then.
        late = self.session << 4
        self.assertEqual(state(~late), ("bake", 3, -1, ((0, "table", 2), (2, "oven", 1))))
        rng = random.Random(252)
        for _ in range(100):
            session = Session("a", random_needs(rng), first=rng.randint(-3, 3), second=1)
            last = session.duration - 1
            turned = ~session
            self.assertEqual(turned.needs, merged([(last - beat, tool, amount) for beat, tool, amount in session.needs]))
            self.assertEqual((turned.name, turned.pair), (session.name, session.pair))
            self.assertEqual(state(~turned << session.needs[0][0]), state(session))

    def test_equal(self):
        same = Session("bake", [(2, "table", 1), (0, "oven", 1), (2, "table", 1)], first=3, second=-1)
        self.assertIs(self.session == same, True)
        self.assertIs(self.session != same, False)
        needs = list(self.session.needs)
        for other in (Session("baked", needs, first=3, second=-1), Session("bake", needs, first=2, second=-1),
                      Session("bake", needs, first=3, second=1), Session("bake", needs[:1], first=3, second=-1),
                      Session("bake", [(0, "oven", 2), (2, "table", 2)], first=3, second=-1), self.session << 1,
                      state(self.session), "bake", None, 3, ("bake", 3, -1), self.session.needs):
            self.assertIs(self.session == other, False)
            self.assertIs(self.session != other, True)


if __name__ == "__main__":
    unittest.main()
