"""Point 18: the texts of lists of entries."""

import unittest

from playhall.errors import BadLine
from playhall.recordtext import read_entries, write_entries
from tests.helpers import Checks

BIG = 10 ** 40


class RecordTextTest(Checks):
    def bad(self, line, word, text):
        self.refused(BadLine, {"line": line, "word": word}, read_entries, text)

    def test_written_and_read_back(self):
        entries = [("play", "take", 1), ("play", "a.b", 3), ("back", 1), ("back", 20), ("forth", 1), ("forth", BIG),
                   ("play", "play", BIG)]
        text = f"play take\nplay a.b 3\nback\nback 20\nforth\nforth {BIG}\nplay play {BIG}"
        self.assertEqual(write_entries(entries), text)
        self.assertEqual(read_entries(text), entries)
        self.assertEqual(write_entries(entries=tuple(entries)), text)
        self.assertEqual(read_entries(text=text), entries)
        self.assertEqual(len(entries), 7)

    def test_the_empty_list(self):
        self.assertEqual(write_entries([]), "")
        self.assertEqual(read_entries(""), [])

    def test_1_may_be_written_out(self):
        self.assertEqual(read_entries("play a 1\nback 1\nforth 1"), [("play", "a", 1), ("back", 1), ("forth", 1)])
        self.assertEqual([type(entry) for entry in read_entries("play a\nback")], [tuple, tuple])

    def test_first_words(self):
        for row in [" ", "Play a", "plays a", "claim goal g", " back", "0", "take"]:
            self.bad(1, 0, row)
            self.bad(2, 0, "back\n" + row)
        self.bad(1, 0, "\nback")
        self.bad(2, 0, "back\n")
        self.bad(2, 0, "back\n\nback")
        self.bad(1, 0, "\n")

    def test_words_of_play(self):
        self.bad(1, 1, "play")
        self.bad(1, 1, "play ")
        self.bad(1, 1, "play  a")
        self.bad(1, 1, "play 3")
        self.bad(1, 1, "play A")
        self.bad(1, 1, "play a.b.c 0")
        for word in ["0", "", "01", "-1", "+1", "x", "1.0", "00"]:
            self.bad(1, 2, f"play a {word}")
            self.bad(3, 2, f"play a 3\nback\nplay a {word}")
            self.bad(1, 2, f"play a {word} 3")
        self.bad(1, 3, "play a 1 ")
        self.bad(1, 3, "play a 1 1")
        self.bad(1, 3, "play a 2 x y")

    def test_words_of_back_and_forth(self):
        for kind in ("back", "forth"):
            for word in ["0", "", "01", "-1", "x", "00"]:
                self.bad(1, 1, f"{kind} {word}")
                self.bad(2, 1, f"play a\n{kind} {word} 1")
            self.bad(1, 2, f"{kind} 1 ")
            self.bad(1, 2, f"{kind} 1 1")
            self.bad(1, 2, f"{kind} 5 x")


if __name__ == "__main__":
    unittest.main()
