"""Point 28: the texts of scorings."""

import random
import unittest

from playhall.errors import BadLine
from playhall.scoretext import read_scoring, write_scoring
from playhall.scorings import Scoring
from tests.helpers import Checks

HEAD = "tally a 0\ntally b 1"


class WriteTest(Checks):
    def test_example_of_the_interface(self):
        scoring = read_scoring("tally a 0\ntally b 1\non take a +1*a +1*b\non take b +2*b\nscore -1 +3*a")
        self.assertEqual([scoring.form, scoring.values_of(["take", "take", "pass"]), scoring.score(["take"])],
                         [((3, "a"), (-1, None)), (3, 4), 2])

    def test_all_kinds_of_lines(self):
        scoring = Scoring([("b.z", -12), ("a", 0), ("tally", 10 ** 20)],
                          [("take.x", "a", [(1, "b.z"), (-10, "a"), (3, None)]), ("on", "b.z", []), ("on", "tally", [(-1, None)])],
                          [(2, "tally"), (-1, None), (1, "a")])
        text = "\n".join([
            "tally b.z -12",
            "tally a 0",
            "tally tally 1" + "0" * 20,
            "on take.x a -10*a +1*b.z +3",
            "on on b.z +0",
            "on on tally -1",
            "score +1*a +2*tally -1",
        ])
        self.assertEqual(write_scoring(scoring), text)
        self.assertEqual(read_scoring(text), scoring)
        self.assertEqual(write_scoring(scoring=read_scoring(text=text)), text)

    def test_the_least_scoring(self):
        self.assertEqual(write_scoring(Scoring([], [], [])), "score +0")
        self.assertEqual(read_scoring("score +0"), Scoring([], [], []))

    def test_written_scorings_are_read_back(self):
        rng = random.Random(101)

        def form():
            return [(rng.randint(-3, 3), rng.choice(["a", "b", "c.d", None])) for _ in range(rng.randint(0, 5))]

        for _ in range(60):
            tallies = [(name, rng.randint(-9, 9)) for name in ("c.d", "a", "b")]
            rules = [(move, tally, form()) for move in ("m", "k", "n.o") for tally in ("a", "c.d") if rng.random() < 0.5]
            scoring = Scoring(tallies, rules, form())
            self.assertEqual(read_scoring(write_scoring(scoring)), scoring)


class ReadTest(Checks):
    def bad(self, line, word, text):
        self.refused(BadLine, {"line": line, "word": word}, read_scoring, text)

    def bad_here(self, word, row, before="", after="\nscore +0"):
        text = HEAD + before + "\n" + row + after
        self.bad((HEAD + before).count("\n") + 2, word, text)

    def test_terms_may_stand_in_any_order_and_repeat(self):
        scoring = read_scoring(HEAD + "\non m a +1 +2*b -1*b +0*a -0 +5*a\nscore -0*b +0 -0")
        self.assertEqual(scoring.rules, (("m", "a", ((5, "a"), (1, "b"), (1, None))),))
        self.assertEqual(scoring.form, ())
        self.assertEqual(write_scoring(scoring), HEAD + "\non m a +5*a +1*b +1\nscore +0")

    def test_first_words(self):
        for row in ["", " ", "Tally c 0", "tallies", "+1", " score +0", "scores +1"]:
            self.bad_here(0, row)
            self.bad(1, 0, row + "\nscore +0")
        self.bad_here(0, "tally c 0", before="\non m a +1")
        self.bad_here(0, "x", before="\non m a +1")
        for row in ["tally c 0", "on m a +1", "score +0", "", "x"]:
            self.bad(4, 0, HEAD + "\nscore +0\n" + row)
            self.bad(5, 0, HEAD + "\non k b +1\nscore +0\n" + row)
        self.bad(2, 0, "score +0\n")

    def test_a_text_that_ends_before_the_score(self):
        self.bad(1, 0, "")
        self.bad(3, 0, HEAD)
        self.bad(4, 0, HEAD + "\non m a +1")
        self.bad(2, 0, "tally a 0\n")
        self.bad(2, 2, "tally a 0\ntally b")

    def test_tally_lines(self):
        self.bad_here(1, "tally")
        self.bad_here(1, "tally ")
        self.bad_here(1, "tally C 0")
        self.bad_here(1, "tally c.d.e 0")
        self.bad_here(1, "tally a 0")
        self.bad_here(2, "tally c")
        for word in ["", "-", "-0", "00", "01", "-01", "+1", "--1", "x", "1-", "0-", "-x", "1.0"]:
            self.bad_here(2, f"tally c {word}")
            self.bad_here(2, f"tally c {word} 1")
        self.bad_here(3, "tally c 0 ")
        self.bad_here(3, "tally c -1 1")
        self.assertEqual(read_scoring("tally c -10\nscore +1").start, (-10,))

    def test_rule_lines(self):
        before = "\non m a +1"
        self.bad_here(1, "on")
        self.bad_here(1, "on ")
        self.bad_here(1, "on M a +1")
        self.bad_here(1, "on a.b.c a +1")
        self.bad_here(2, "on m")
        self.bad_here(2, "on m ")
        self.bad_here(2, "on m c +1")
        self.bad_here(2, "on m +1")
        self.bad_here(2, "on m a", before)
        self.bad_here(2, "on m a +1", before)
        self.bad_here(2, "on m a x", before)
        self.bad_here(3, "on m b", before)
        self.bad_here(3, "on m a")

    def test_terms(self):
        for word in ["", "1", "1*a", "+", "-", "*a", "+*a", "a", "+a", "+1*", "+1*c", "+1*A", "+01", "-00", "+1*a*a", "++1",
                     "+-1", "+1a", "+1*1", "=1", "+1 ", "*", "+1**a", "+x", "+1*a "]:
            first = word.rstrip(" ")
            extra = 1 if word != first else 0
            self.bad_here(3 + extra, f"on m a {word}")
            self.bad_here(4 + extra, f"on m a +1 {word}")
            self.bad_here(4 + extra, f"on m a -0*a {word} +1")
            self.bad_here(1 + extra, f"score {word}", after="")
            self.bad_here(2 + extra, f"score +1 {word}", after="")
        self.bad_here(1, "score", after="")
        self.bad_here(1, "score", after="\nscore +1")

    def test_a_scoring_without_tallies(self):
        self.bad(1, 1, "score +1*a")
        self.bad(1, 2, "on m a +1\nscore +0")


if __name__ == "__main__":
    unittest.main()
