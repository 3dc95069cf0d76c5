"""The texts of trees."""

from playhall.askerrors import BadTreeLine
from playhall.names import is_number
from playhall.trees import Tree


def write_tree(tree):
    """The text of the tree."""
    lines = []
    waiting = [0]
    while waiting:
        node = tree.nodes[waiting.pop()]
        lines.append(_line_of(node))
        waiting.extend(list(node.behind)[::-1])
    return "\n".join(lines)


def _line_of(node):
    if node.party is None:
        return f"end {node.outcome}"
    cells = [" ".join([str(hand) for hand in cell]) for cell in node.cells]
    return f"ask {node.party}: {' / '.join(cells)}"


def read_tree(text):
    """The tree with this text; raises BadTreeLine."""
    rows = []
    # How many forms must follow until the tree is complete.
    missing = 1
    for place, line in enumerate(text.split("\n"), start=1):
        row = _row_of(line) if missing > 0 else None
        if row is None:
            raise BadTreeLine(place)
        rows.append(row)
        missing += len(row[2]) - 1
    if missing > 0:
        raise BadTreeLine(len(rows) + 1)
    return Tree(_form_of(rows))


def _row_of(line):
    """The word, the number and the list of the cells of a line, or None if it has none of the forms."""
    words = line.split(" ")
    if words[0] == "end" and len(words) == 2 and is_number(words[1]):
        return ("end", int(words[1]), [])
    if words[0] == "ask" and len(words) > 2 and words[1].endswith(":") and is_number(words[1][:-1]):
        cells = _cells_of(words[2:])
        return None if cells is None else ("ask", int(words[1][:-1]), cells)
    return None


def _cells_of(words):
    """The cells that stand between slashes, or None if they are not those of a question."""
    cells = [[]]
    for word in words:
        if word == "/":
            cells.append([])
        elif is_number(word):
            cells[-1].append(int(word))
        else:
            return None
    hands = [hand for cell in cells for hand in cell]
    if len(cells) < 2 or len(set(hands)) < len(hands):
        return None
    return cells if all([len(cell) > 0 and cell == sorted(cell) for cell in cells]) else None


def _form_of(rows):
    """The form of a complete tree."""
    # Behind a row come the forms of its branches, so from the end on they are known, the first one on top.
    forms = []
    for word, number, cells in rows[::-1]:
        branches = []
        for cell in cells:
            branches.append((tuple(cell), forms.pop()))
        forms.append(("ask", number, tuple(branches)) if word == "ask" else ("end", number))
    return forms[0]
