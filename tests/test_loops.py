"""Rules L5 Iteration and L23: no loop and no comprehension changes what it walks."""

import unittest
from pathlib import Path

from tests.loops import changed_walks

PACKAGE = Path(__file__).resolve().parent.parent / "playhall"

# Rows that may not stand, behind the names of what they change.
ASKED = ("order", """
def explored(rule, box):
    order = [box.sides]
    known = {box.sides: True}
    questions = {}
    while len(questions) < len(order):
        sides = order[len(questions)]
        asked = questions_in(rule, Box(sides))
        if asked is None:
            return questions, sides
        questions[sides] = asked
        for _, behind in asked:
            for part in behind:
                if part not in known:
                    known[part] = True
                    order.append(part)
    return questions, None


def questions_in(rule, box):
    return [(party, [(side,) for side in box.sides]) for party in range(rule.parties)]


class Box:
    def __init__(self, sides):
        self.sides = sides
""")
LOADS = ("found", """
def steps(house, load):
    for index in house.menu:
        yield (index, load + index)


def all_loads(house):
    found = [0]
    known = {0: True}
    at = 0
    while at < len(found):
        present = found[at]
        for _, load in HEAD:
            if load not in known:
                known[load] = True
                found.append(load)
        at += 1
    return found
""")
FILLED = ("numbers", """
def numbered(ways):
    numbers = {}
    for root in range(len(ways)):
        found = reached(ways, root, numbers)
        for node in found:
            numbers[node] = root
    return numbers


def reached(ways, root, barred):
    return barred if root in barred else {root: True}
""")
EXPLORED = ("_positions", """
class Arena:
    def __init__(self, game):
        self.game = game
        self._positions = [game.start]
        self._explore(0)

    def _explore(self, number):
        position = self._positions[number]
        for behind in ways_from(self.game, position):
            self._positions.append(behind)


def ways_from(game, position):
    return [position + amount for amount in game.amounts]
""")
WALKED = ("rows", """
class Shelf:
    def __init__(self, rows):
        self.rows = rows

    def __iter__(self):
        return iter(self.rows)

    def fill(self, row):
        self.rows.append(row)

    def doubled(self):
        for row in self:
            self.fill(row)
""")
# Rows that may stand.
KEPT = """
def explored(rule, box):
    order = [box]
    known = {box: True}
    at = 0
    while at < len(order):
        asked = questions_in(rule, order[at])
        parts = [part for _, behind in asked for part in behind]
        for part in parts:
            if part not in known:
                known[part] = True
                order.append(part)
        new = []
        for part in questions_in(rule, order[at]):
            new.append(part)
        order.extend(new)
        for part in list(order):
            order.append(part)
        for place, part in enumerate(sorted(order)):
            order[place] = part
        at += 1
    return order


def questions_in(rule, box):
    found = []
    for party in range(rule.parties):
        found.append((party, [box]))
    return found


class Shelf:
    def __init__(self, rows):
        self.rows = list(rows)
        self.seen = []

    def note(self):
        for row in self.rows:
            self.seen.append(row)
            self.add_all([row])

    def add_all(self, others):
        self.seen.extend(others)
"""


class LoopsTest(unittest.TestCase):
    def test_the_package(self):
        texts = {path.stem: path.read_text("utf-8") for path in sorted(PACKAGE.glob("*.py"))}
        self.assertEqual(changed_walks(texts), [])

    def found(self, text):
        return {what for _, _, what in changed_walks({"rows": text})}

    def test_what_was_made_from_an_item_of_a_list_that_grows(self):
        for what, text in (ASKED, FILLED, EXPLORED, WALKED):
            self.assertEqual(self.found(text), {what})
        line = ASKED[1].split("\n").index("                    order.append(part)") + 1
        self.assertEqual(changed_walks({"rows": ASKED[1]}), [("rows", line, "order")])

    def test_what_a_generator_was_passed(self):
        what, text = LOADS
        for head in ("steps(house, present)", "list(steps(house, present))", "steps(house, found[at])",
                     "sorted(list(steps(house, present)))"):
            self.assertEqual(self.found(text.replace("HEAD", head)), {what}, head)
        kept = text.replace("HEAD", "rows").replace("        for", "        rows = list(steps(house, present))\n        for")
        self.assertEqual(self.found(kept), set())

    def test_short_rows(self):
        for row in (
                "for x in xs: xs.append(x)",
                "for x in xs: del xs[0]",
                "for x in xs: xs[0] = x",
                "for x in xs: xs[0] += 1",
                "for x in xs: xs += [x]",
                "for k, x in enumerate(xs): xs.pop()",
                "for k, x in zip(ys, xs): xs.pop()",
                "for k, x in xs.items(): xs.clear()",
                "for x in xs if ys else ys: xs.append(x)",
                "for x in ys or xs: xs.append(x)",
                "for x in xs: (xs if ys else ys).append(x)",
                "same = xs\n    for x in same: xs.append(x)",
                "same = xs if ys else ys\n    for x in xs: same.append(x)",
                "same = xs.rows\n    for x in xs.rows: same.append(x)",
                "for x in xs[0]: xs[0].append(x)",
                "for x in xs.rows: xs.rows.append(x)",
                "for x in xs.rows: ys.rows = [x]",
                "for x in xs: grow(xs)",
                "for x in xs: grown = grow_all(row=xs)",
                "for x in xs: heappush(xs, x)",
                "for y in xs:\n        for x in y: xs.append(x)",
                "for x in [xs]:\n        for y in x: xs.append(y)",
                "return [xs.pop() for x in xs]",
                "return {x: xs.pop() for x in xs}",
                "return [x for x in xs if xs.pop()]"):
            self.assertNotEqual(self.found(self.around(row)), set(), row)

    def test_short_rows_that_may_stand(self):
        for row in (
                "for x in list(xs): xs.append(x)",
                "for x in sorted(xs): del xs[x]",
                "for x in [y for y in xs]: xs.append(x)",
                "for x in range(len(xs)): xs[x] = 1",
                "for x in ys: xs.append(x)",
                "for x in ys[len(xs)]: xs.append(x)",
                "for x in ys.rows: xs.cells.append(x)",
                "for x in xs: grow(ys)",
                "for x in xs: x = 1",
                "for x in xs: x.append(1)",
                "for x in xs: ys += [x]",
                "return [ys.pop() for x in xs]"):
            self.assertEqual(self.found(self.around(row)), set(), row)

    def around(self, row):
        return f"""
def grow(row):
    row.append(1)


def grow_all(row):
    grow(row)


def loop(xs, ys):
    {row}
"""

    def test_rows_that_may_stand(self):
        self.assertEqual(changed_walks({"rows": KEPT}), [])


if __name__ == "__main__":
    unittest.main()
