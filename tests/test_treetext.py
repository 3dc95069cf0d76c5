"""Point 55: the texts of trees."""

import random
import unittest

from playhall.askerrors import BadTreeLine
from playhall.trees import Tree
from playhall.treetext import read_tree, write_tree
from tests.helpers import Checks, chain_form, random_form, random_rule

FORM = ("ask", 1, (
    ((0, 3), ("ask", 0, (((0,), ("end", 5)), ((10, 12), ("end", 0)), ((2,), ("end", 7))))),
    ((1, 2, 40), ("end", 9))))
TEXT = "ask 1: 0 3 / 1 2 40\nask 0: 0 / 10 12 / 2\nend 5\nend 0\nend 7\nend 9"
# A question, and what stands behind its branches.
BEHIND = "\nend 0\nend 1"


def plain_lines(form):
    if form[0] == "end":
        return [f"end {form[1]}"]
    cells = [" ".join(map(str, sorted(cell))) for cell, _ in form[2]]
    return [f"ask {form[1]}: " + " / ".join(cells)] + [line for _, part in form[2] for line in plain_lines(part)]


class TreeTextTest(Checks):
    def test_write_and_read(self):
        self.assertEqual(write_tree(Tree(FORM)), TEXT)
        self.assertEqual(read_tree(TEXT).form, FORM)
        self.assertIsInstance(read_tree(TEXT), Tree)
        self.assertEqual(read_tree(text=write_tree(tree=Tree(FORM))).length, 2)

    def test_one_line(self):
        for outcome in (0, 7, 10, 10 ** 40 - 1):
            self.assertEqual(write_tree(Tree(("end", outcome))), f"end {outcome}")
            self.assertEqual(read_tree(f"end {outcome}").form, ("end", outcome))

    def test_random_trees(self):
        rng = random.Random(241)
        for _ in range(150):
            rule = random_rule(rng, parties=3, hands=5)
            form = random_form(rng, rule, rule.full)
            text = write_tree(Tree(form))
            self.assertEqual(text, "\n".join(plain_lines(form)))
            self.assertEqual(read_tree(text).form, Tree(form).form)
            lines = text.split("\n")
            # A line less, a line more, and a line that is spoiled.
            self.refused(BadTreeLine, {"line": len(lines)}, read_tree, "\n".join(lines[:-1]) if len(lines) > 1 else "")
            self.refused(BadTreeLine, {"line": len(lines) + 1}, read_tree, text + "\nend 0")
            at = rng.randrange(len(lines))
            spoiled = [*lines[:at], rng.choice([lines[at] + " ", " " + lines[at], lines[at].upper(), ""]), *lines[at + 1:]]
            self.refused(BadTreeLine, {"line": at + 1}, read_tree, "\n".join(spoiled))

    def test_long_trees(self):
        tree = Tree(chain_form(100))
        self.assertEqual(read_tree(write_tree(tree)).form, tree.form)
        wide = Tree(("ask", 0, [([hand], ("ask", 1, [([k], ("end", k)) for k in range(40)])) for hand in range(30)]))
        self.assertEqual(read_tree(write_tree(wide)).form, wide.form)
        deep = ("end", 0)
        for hand in range(600):
            deep = ("ask", 2, (((0,), deep), ((1,), ("end", hand))))
        self.assertEqual(write_tree(read_tree(write_tree(Tree(deep)))), write_tree(Tree(deep)))

    def test_the_empty_text(self):
        self.refused(BadTreeLine, {"line": 1}, read_tree, "")
        self.refused(BadTreeLine, {"line": 1}, read_tree, "\n")
        self.refused(BadTreeLine, {"line": 1}, read_tree, "\nend 0")

    def test_bad_ends(self):
        for line in ("end", "end ", "end  1", " end 1", "end 1 ", "end 1 2", "end -1", "end +1", "end 01", "end 00", "end a", "End 1",
                     "end 1.", "end1", "end:1", "stop 1", "1", "ends 1", "end \t1", "end 1:", "end x", "end ?", "go", "/", "end /"):
            self.refused(BadTreeLine, {"line": 1}, read_tree, line)
            self.refused(BadTreeLine, {"line": 2}, read_tree, f"ask 0: 0 / 1\n{line}\nend 1")
            self.refused(BadTreeLine, {"line": 3}, read_tree, f"ask 0: 0 / 1\nend 1\n{line}")
            self.refused(BadTreeLine, {"line": 3}, read_tree, f"ask 0: 0 / 1\nend 1\n{line}\nend 0\nnone")

    def test_bad_questions(self):
        for line in ("ask", "ask ", "ask 0", "ask 0:", "ask 0: ", "ask 0: 0", "ask 0: 0 1", "ask 0: 0 /", "ask 0: 0 / ", "ask 0: / 0",
                     "ask 0: 0 / / 1", "ask 0: 0 /  / 1", "ask 0: 0  / 1", "ask 0: 0 /  1", "ask 0:  0 / 1", "ask  0: 0 / 1",
                     " ask 0: 0 / 1", "ask 0: 0 / 1 ", "ask 0:0 / 1", "ask 0 : 0 / 1", "ask 0 0 / 1", "ask : 0 / 1", "ask 00: 0 / 1",
                     "ask -1: 0 / 1", "ask a: 0 / 1", "ask 0: 0 1", "ask 0: 0 /1", "ask 0: 0/ 1", "ask 0: 0/1", "ask 0: 00 / 1",
                     "ask 0: 0 / 01", "ask 0: -1 / 0", "ask 0: 0 / a", "ask 0: 0 / 0", "ask 0: 0 0 / 1", "ask 0: 0 1 / 1 2",
                     "ask 0: 0 2 / 1 2", "ask 0: 1 0 / 2", "ask 0: 2 / 1 0", "ask 0: 0 / 1 3 2", "Ask 0: 0 / 1", "asks 0: 0 / 1",
                     "ask 0:: 0 / 1", "ask 0: 0 | 1", "ask 0: 0 // 1", "ask 0: 0 / 1 /", "ask 0: / 0 / 1", "ask 0, 0 / 1", "ask 0: 0  1 / 2"):
            self.refused(BadTreeLine, {"line": 1}, read_tree, line + BEHIND)
            self.refused(BadTreeLine, {"line": 2}, read_tree, f"ask 3: 5 / 6\n{line}{BEHIND}\nend 0")
            self.refused(BadTreeLine, {"line": 4}, read_tree, f"ask 1: 0 / 1\nask 3: 5 / 6\nend 3\n{line}{BEHIND}\nend 0")

    def test_cells_that_are_not_bad(self):
        for line, cells in (("ask 0: 1 / 0", [(1,), (0,)]), ("ask 12: 9 10 / 2 100", [(9, 10), (2, 100)]),
                            (f"ask 0: {10 ** 9} / 0", [(10 ** 9,), (0,)])):
            form = read_tree(line + BEHIND).form
            self.assertEqual((form[:2], [cell for cell, _ in form[2]]), (("ask", int(line.split(":")[0][4:])), cells))

    def test_lines_behind_a_complete_tree(self):
        for more in ("end 0", "", "ask 0: 0 / 1", "none", "end 0\nend 1"):
            self.refused(BadTreeLine, {"line": 2}, read_tree, f"end 0\n{more}")
            self.refused(BadTreeLine, {"line": 7}, read_tree, f"{TEXT}\n{more}")

    def test_lines_that_end_too_early(self):
        lines = TEXT.split("\n")
        for many in range(1, len(lines)):
            self.refused(BadTreeLine, {"line": many + 1}, read_tree, "\n".join(lines[:many]))

    def test_the_first_bad_line(self):
        self.refused(BadTreeLine, {"line": 2}, read_tree, "ask 0: 0 / 1\nend\nend\nend")
        self.refused(BadTreeLine, {"line": 2}, read_tree, "end 0\nend\nend")


if __name__ == "__main__":
    unittest.main()
