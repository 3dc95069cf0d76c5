"""Point 58: the lines of sessions."""

import random
import unittest

from playhall.houseerrors import InvalidLine
from playhall.sessions import Session
from playhall.sessiontext import read_session, write_session
from tests.helpers import Checks


class SessionTextTest(Checks):
    def test_write(self):
        session = Session("bake", [(10, "oven", 2), (0, "table", 1), (2, "oven", 1), (0, "oven", 13)], first=-5, second=40)
        self.assertEqual(write_session(session), "bake -5 40 oven@0x13 table@0 oven@2 oven@10x2")
        self.assertEqual(write_session(session=Session("a", [(0, "b", 1)])), "a 0 0 b@0")

    def test_read(self):
        self.assertEqual(read_session("bake -5 40 oven@10x2 table@0 oven@2 oven@0x13"),
                         Session("bake", [(10, "oven", 2), (0, "table", 1), (2, "oven", 1), (0, "oven", 13)], first=-5, second=40))
        self.assertEqual(read_session(line="a 0 -10 b@0"), Session("a", [(0, "b", 1)], second=-10))
        # Needs may repeat, and `x1` may stand there.
        self.assertEqual(read_session("a 1 2 b@3x1 b@3 b@3x5 b@0x1").needs, ((0, "b", 1), (3, "b", 7)))
        self.assertEqual(read_session("x 1 2 x@3x2").needs, ((3, "x", 2),))
        self.assertIsInstance(read_session("a 1 2 b@3"), Session)

    def test_write_and_read(self):
        rng = random.Random(261)
        for _ in range(150):
            needs = [(rng.randint(0, 100), rng.choice(["x", "ax", "b"]), rng.randint(1, 100000)) for _ in range(rng.randint(1, 60))]
            session = Session(rng.choice(["x", "bake"]), needs, first=rng.randint(-10 ** 12, 10 ** 12), second=rng.randint(-9, 9))
            line = write_session(session)
            self.assertEqual(read_session(line), session)
            self.assertEqual(line, " ".join(
                [session.name, str(session.first), str(session.second)]
                + [f"{tool}@{beat}" + (f"x{amount}" if amount > 1 else "") for beat, tool, amount in session.needs]))
            words = line.split(" ")
            mixed = [*words[:3], *rng.sample(words[3:], len(words) - 3)]
            self.assertEqual(read_session(" ".join(mixed)), session)

    def test_bad_words(self):
        for word in ("", "A", "a.b", "a1", "abcdefghijklm", "1", "-", "@"):
            self.refused(InvalidLine, {"word": 0}, read_session, f"{word} 1 2 b@0")
        for word in ("", "-0", "01", "-01", "+1", "--1", "1-", "a", "-", "1.0", "00", "0x1", "1x1"):
            self.refused(InvalidLine, {"word": 1}, read_session, f"a {word} 2 b@0")
            self.refused(InvalidLine, {"word": 2}, read_session, f"a 1 {word} b@0")
        for word in ("", "b", "b@", "@0", "b@-1", "b@01", "b@0x", "b@0x0", "b@0x01", "b@0x-1", "b@x1", "b@0x1x1", "b@0@1", "B@0", "b.c@0",
                     "abcdefghijklm@0", "b@0X1", "b@+1", "b@1.5", "b@0x1.5", "b@0xx1", "0@b", "b@00", "b@0x00", "b@0x+1", "b@a",
                     "b@@0", "bx1@0"):
            self.refused(InvalidLine, {"word": 3}, read_session, f"a 1 2 {word}")
            self.refused(InvalidLine, {"word": 3}, read_session, f"a 1 2 {word} b@")
            self.refused(InvalidLine, {"word": 4}, read_session, f"a 1 2 b@0 {word}")
            self.refused(InvalidLine, {"word": 5}, read_session, f"a 1 2 b@0 b@0x5 {word} c@1")

    def test_too_few_words(self):
        for line in ("a", "a 1", "a 1 -2"):
            self.refused(InvalidLine, {"word": len(line.split(" "))}, read_session, line)
        self.refused(InvalidLine, {"word": 0}, read_session, "")
        self.refused(InvalidLine, {"word": 0}, read_session, "A")
        self.refused(InvalidLine, {"word": 1}, read_session, "a -0")
        self.refused(InvalidLine, {"word": 1}, read_session, "a ")
        self.refused(InvalidLine, {"word": 3}, read_session, "a 1 2 ")
        self.refused(InvalidLine, {"word": 0}, read_session, " a 1 2 b@0")
        self.refused(InvalidLine, {"word": 4}, read_session, "a 1 2 b@0 ")
        self.refused(InvalidLine, {"word": 4}, read_session, "a 1 2 b@0  b@1")
        self.refused(InvalidLine, {"word": 3}, read_session, "a 1 2 b@0\n")

    def test_the_first_bad_word(self):
        self.refused(InvalidLine, {"word": 1}, read_session, "a b c d")
        self.refused(InvalidLine, {"word": 0}, read_session, "1 -0 -0 -0")


if __name__ == "__main__":
    unittest.main()
