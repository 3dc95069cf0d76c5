"""Point 3: names, labels and numbers."""

import unittest

from playhall.names import is_label, is_name, is_number, is_signed


class NamesTest(unittest.TestCase):
    def test_names_have_1_to_12_letters(self):
        for length in range(0, 15):
            self.assertIs(is_name("a" * length), 1 <= length <= 12, length)
        self.assertIs(is_name("abcdefghijkl"), True)
        self.assertIs(is_name("mnopqrstuvwx"), True)
        self.assertIs(is_name("yz"), True)

    def test_names_have_nothing_but_small_letters(self):
        for text in ["A", "aB", "a b", " a", "a ", "a\n", "\na", "a1", "1", "a_b", "a-b", "a.b", "a'", "`", "{", "\u00e9", "\u00df"]:
            self.assertIs(is_name(text), False, text)

    def test_labels_are_one_name_or_two(self):
        for text in ["a", "abcdefghijkl", "a.b", "abcdefghijkl.abcdefghijkl"]:
            self.assertIs(is_label(text), True, text)
        for text in ["", ".", "a.", ".a", "a..b", "a.b.c", "a.b.", ".a.b", "abcdefghijklm", "abcdefghijklm.a",
                     "a.abcdefghijklm", "A.b", "a.B", "a. b", "a .b", "a.b ", " a.b", "a.b\n", "a\n.b", "a,b", "a.1"]:
            self.assertIs(is_label(text), False, text)

    def test_numbers_have_no_leading_zero(self):
        for text in ["0", "1", "9", "10", "90", "100", "12345678901234567890123456789012345678901234567890"]:
            self.assertIs(is_number(text), True, text)
        for text in ["", "00", "01", "007", "-1", "+1", "-0", " 1", "1 ", "1\n", "\n1", "1.0", "1_0", "a", "1a", "a1",
                     "0x1", "\u0661", "\u00b2", "1\u0661"]:
            self.assertIs(is_number(text), False, text)

    def test_signed_numbers(self):
        for text in ["0", "7", "-7", "10", "-10", "-" + "9" * 40]:
            self.assertIs(is_signed(text), True, text)
        for text in ["", "-", "-0", "--1", "+1", "01", "-01", "1-", " 1", "- 1", "a", "-a", "00"]:
            self.assertIs(is_signed(text), False, text)


if __name__ == "__main__":
    unittest.main()
