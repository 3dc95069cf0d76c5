"""Rules L5 and L28: what operators and properties run changes nothing, and no generator runs there."""

import unittest
from pathlib import Path

from tests.purity import impure_rows

PACKAGE = Path(__file__).resolve().parent.parent / "playhall"

COMBOS = """
def combinations(sides):
    for number in range(2):
        yield (number, sides)


def all_combinations(sides):
    return [(number, sides) for number in range(2)]
"""
BOXES = """
from pack.combos import all_combinations, combinations


class Box:
    def __init__(self, sides):
        self.sides = sides
        self.all = tuple(MAKE(self.sides))

    def __and__(self, other):
        return Box(_common(self, other))

    def __sub__(self, other):
        found = []
        for side in self.sides:
            found.append(Box([side]))
        return found


def _common(box, other):
    return [side for side in box.sides if side in other.sides]
"""
ROWS = """
from pack.rest import helped


class Row:
    def __init__(self, cells):
        self.cells = cells
        self.seen = 0

    def kept(self):
        self.seen = self.seen + 1
        return self.cells

    @property
    def first(self):
        BODY
"""
REST = """
def helped(row):
    row.cells.append(1)
    return row


def told(row):
    return [cell for cell in row.cells]
"""


class PurityTest(unittest.TestCase):
    def test_the_package(self):
        texts = {path.stem: path.read_text("utf-8") for path in sorted(PACKAGE.glob("*.py"))}
        self.assertEqual(impure_rows(texts), [])

    def boxes(self, make):
        return impure_rows({"combos": COMBOS, "boxes": BOXES.replace("MAKE", make)})

    def test_a_generator_that_runs_when_an_operator_makes_an_object(self):
        self.assertEqual(self.boxes("all_combinations"), [])
        self.assertEqual(self.boxes("combinations"), [
            ("__and__", "combos", 2, "a generator runs"), ("__sub__", "combos", 2, "a generator runs")])

    def row(self, *lines):
        body = "\n        ".join(lines)
        return impure_rows({"rest": REST, "rows": ROWS.replace("BODY", body)})

    def test_rows_that_may_stand(self):
        for lines in (
                ["return self.cells[0]"],
                ["found = [1]", "found.append(2)", "found[0] = 3", "return found"],
                ["at = 0", "at += 1", "return at"],
                ["table = {}", "table[1] = 2", "return table"],
                ["return sorted([len(cell) for cell in self.cells])"],
                ["return Row(list(self.cells))"]):
            self.assertEqual(self.row(*lines), [], lines)

    def test_rows_that_may_not_stand(self):
        for lines in (
                ["self.seen = 1", "return 1"],
                ["self.seen += 1", "return 1"],
                ["self.cells[0] = 1", "return 1"],
                ["del self.cells[0]", "return 1"],
                ["self.cells.append(1)", "return 1"],
                ["found = self.cells", "found.pop()", "return found"],
                ["found = self.cells", "found += [1]", "return found"],
                ["found = {k: 1 for k in self.cells}", "found[1] = 2", "return found"],
                ["return self.kept()"],
                ["return helped(self)"],
                ["return self.cells[0](1)"],
                ["return self.cells(1)"],
                ["call = self.cells", "return call(1)"],
                ["return sum(cell for cell in self.cells)"],
                ["found = [2, 1]", "found.sort()", "return found"]):
            self.assertNotEqual(self.row(*lines), [], lines)


if __name__ == "__main__":
    unittest.main()
