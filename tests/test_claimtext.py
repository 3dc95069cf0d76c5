"""Point 68: the texts of claimed records."""

import random
import unittest

from playhall.claimtext import read_claims, write_claims
from playhall.errors import BadLine
from playhall.recordtext import read_entries, write_entries
from tests.helpers import Checks

BIG = 10 ** 40 - 1
ENTRIES = [
    ("play", "take", 1), ("at", "stones", 3), ("at", "a.b", 0), ("at", "a", -7), ("goal", "win"), ("goal", "a.b"), ("back", 2),
    ("class", 0), ("class", 12), ("rank", "win", 4, ("ann", "bob")), ("rank", "a.b", None, ()), ("rank", "never", 0, ("x.y",)),
    ("rank", "win", None, ("never", "ann", "ann")), ("forth", 1), ("score", 0), ("score", -BIG), ("score", BIG), ("report", "clean"),
    ("report", "foul"), ("report", "doubt"), ("play", "claim", 3)]
TEXT = "\n".join([
    "play take", "claim at stones 3", "claim at a.b 0", "claim at a -7", "claim goal win", "claim goal a.b", "back 2", "claim class 0",
    "claim class 12", "claim rank win 4 ann bob", "claim rank a.b never", "claim rank never 0 x.y", "claim rank win never never ann ann",
    "forth", "claim score 0", f"claim score -{BIG}", f"claim score {BIG}", "claim report clean", "claim report foul", "claim report doubt",
    "play claim 3"])
NO_LABELS = ["", "A", "a.b.c", ".", "a.", "1", "-", "abcdefghijklm", "a_b"]
NO_NUMBERS = ["", "01", "-01", "+1", "x", "1.0", "00", "--1", "-", "1-"]


class ClaimTextTest(Checks):
    def bad(self, line, word, text):
        self.refused(BadLine, {"line": line, "word": word}, read_claims, text)

    def test_write_and_read(self):
        kept = list(ENTRIES)
        self.assertEqual(write_claims(ENTRIES), TEXT)
        self.assertEqual(read_claims(TEXT), ENTRIES)
        self.assertEqual(write_claims(entries=tuple(ENTRIES)), TEXT)
        self.assertEqual(read_claims(text=TEXT), ENTRIES)
        self.assertEqual(ENTRIES, kept)
        found = read_claims(TEXT)
        self.assertIsInstance(found, list)
        self.assertTrue(all(isinstance(row, tuple) for row in found))
        self.assertTrue(all(isinstance(row[3], tuple) for row in found if row[0] == "rank"))

    def test_teams_may_be_lists_when_they_are_written(self):
        self.assertEqual(write_claims([("rank", "g", 1, ["a", "b"])]), "claim rank g 1 a b")

    def test_the_empty_list(self):
        self.assertEqual(write_claims([]), "")
        self.assertEqual(read_claims(""), [])
        self.bad(1, 0, "\n")
        self.bad(2, 0, "back\n")
        self.bad(2, 0, "claim score 1\n")

    def test_entries_alone(self):
        entries = [entry for entry in ENTRIES if entry[0] in ("play", "back", "forth")]
        self.assertEqual(write_claims(entries), write_entries(entries))
        self.assertEqual(read_claims(write_entries(entries)), read_entries(write_entries(entries)))
        self.assertEqual(read_claims("play a 1\nback 1"), [("play", "a", 1), ("back", 1)])
        for text, word in (("play", 1), ("play A", 1), ("play a 0", 2), ("back 01", 1), ("forth 1 1", 2), ("back ", 1)):
            self.bad(2, word, f"claim score 0\n{text}")

    def test_first_words(self):
        for row in (" ", "Claim goal g", "claims goal g", " claim goal g", "goal g", "at a 1", "score 1", "0", "take"):
            self.bad(1, 0, row)
            self.bad(2, 0, f"claim goal g\n{row}")

    def test_second_words(self):
        for word in ("", "At", "goals", "play", "back", "claim", "1", "report.x"):
            self.bad(1, 1, f"claim {word}")
            self.bad(3, 1, f"back\nback\nclaim {word} a 1")
        self.bad(1, 1, "claim")
        self.bad(1, 1, "claim  goal g")

    def test_words_of_at(self):
        self.bad(1, 2, "claim at")
        self.bad(1, 3, "claim at a")
        for word in NO_LABELS:
            self.bad(1, 2, f"claim at {word}")
            self.bad(1, 2, f"claim at {word} x")
        for word in [*NO_NUMBERS, "-0", "never"]:
            self.bad(1, 3, f"claim at a {word}")
            self.bad(1, 3, f"claim at a {word} 5")
        self.bad(1, 4, "claim at a 1 ")
        self.bad(1, 4, "claim at a -1 2")

    def test_words_of_goal(self):
        self.bad(1, 2, "claim goal")
        for word in NO_LABELS:
            self.bad(1, 2, f"claim goal {word}")
            self.bad(1, 2, f"claim goal {word} x")
        self.bad(1, 3, "claim goal g ")
        self.bad(1, 3, "claim goal g h")

    def test_words_of_class(self):
        self.bad(1, 2, "claim class")
        for word in [*NO_NUMBERS, "-1", "-0", "never"]:
            self.bad(1, 2, f"claim class {word}")
        self.bad(1, 3, "claim class 1 ")
        self.bad(1, 3, "claim class 1 1")

    def test_words_of_rank(self):
        self.bad(1, 2, "claim rank")
        self.bad(1, 3, "claim rank g")
        for word in NO_LABELS:
            self.bad(1, 2, f"claim rank {word} x")
            self.bad(1, 4, f"claim rank g 1 {word}")
            self.bad(1, 5, f"claim rank g never ann {word} X")
        for word in [*NO_NUMBERS, "-1", "-0", "Never", "nevermore"]:
            self.bad(1, 3, f"claim rank g {word}")
            self.bad(1, 3, f"claim rank g {word} ann")
        self.bad(1, 4, "claim rank g 1 ")
        self.bad(1, 4, "claim rank g 1 2")

    def test_words_of_score(self):
        self.bad(1, 2, "claim score")
        for word in [*NO_NUMBERS, "-0", "never"]:
            self.bad(1, 2, f"claim score {word}")
        self.bad(1, 3, "claim score -1 ")
        self.bad(1, 3, "claim score 1 1")

    def test_words_of_report(self):
        self.bad(1, 2, "claim report")
        for word in ("", "Clean", "none", "cleans", "1", "clean.foul"):
            self.bad(1, 2, f"claim report {word}")
        self.bad(1, 3, "claim report foul ")
        self.bad(1, 3, "claim report doubt clean")

    def test_the_first_bad_word(self):
        self.bad(2, 1, "back\nclaim x\nno")
        self.bad(1, 2, "claim at A x y\nno")

    def test_random_lists(self):
        rng = random.Random(361)
        for _ in range(60):
            entries = [rng.choice(ENTRIES) for _ in range(rng.randint(0, 200))]
            self.assertEqual(read_claims(write_claims(entries)), entries)


if __name__ == "__main__":
    unittest.main()
