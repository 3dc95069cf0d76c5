"""Trees of questions."""

from playhall.askerrors import BadAnswer, BadTree
from playhall.counts import is_count


class Node:
    """A place in a tree: an end with its outcome, or a question with its party, its cells, and the
    indexes of the nodes behind its branches."""

    def __init__(self, path, party, cells, behind, outcome):
        self.path = path
        self.party = party
        self.cells = cells
        self.behind = behind
        self.outcome = outcome


class Tree:
    """A tree of questions, each of which asks a party in which cell its hand lies."""

    def __init__(self, form):
        # The root comes first, and each node before those behind it.
        self.nodes = _nodes_of(form)
        self.form = _form_of(self.nodes)
        self.length = max([len(node.path) for node in self.nodes])

    def __call__(self, combination):
        node = self.nodes[0]
        while node.party is not None:
            branch = branch_of(node, combination[node.party])
            if branch is None:
                raise BadAnswer(node.path)
            node = self.nodes[node.behind[branch]]
        return node.outcome

    def ends(self):
        """Yields the path and the outcome of each end, ascending by path."""
        for path, outcome in sorted([(node.path, node.outcome) for node in self.nodes if node.party is None]):
            yield (path, outcome)

    def cut(self, box):
        """The tree with the hands in the box, numbered anew."""
        places = [{hand: place for place, hand in enumerate(side)} for side in box.sides]
        forms = {}
        for index in reversed(range(len(self.nodes))):
            forms[index] = _cut_form(self.nodes[index], places, forms)
        return Tree(forms[0])


def branch_of(node, hand):
    """The number of the branch of a question whose cell contains the hand, or None."""
    for branch, cell in enumerate(node.cells):
        if hand in cell:
            return branch
    return None


def _nodes_of(form):
    """The nodes of a form; raises BadTree."""
    waiting = [((), form)]
    nodes = []
    bad = []
    while len(nodes) < len(waiting):
        path, part = waiting[len(nodes)]
        if _is_question(part):
            cells = tuple([tuple(sorted(cell)) for cell, _ in part[2]])
            behind = tuple([len(waiting) + branch for branch in range(len(cells))])
            waiting.extend([((*path, branch), pair[1]) for branch, pair in enumerate(part[2])])
            nodes.append(Node(path, part[1], cells, behind, None))
        else:
            if not _is_end(part):
                bad.append(path)
            nodes.append(Node(path, None, (), (), part[1] if _is_end(part) else None))
    if bad:
        raise BadTree(min(bad))
    return tuple(nodes)


def _is_row(part, many):
    """Whether it is a list or tuple with as many items."""
    return isinstance(part, (list, tuple)) and len(part) == many


def _is_end(part):
    return _is_row(part, 2) and part[0] == "end" and is_count(part[1])


def _is_question(part):
    if not _is_row(part, 3) or part[0] != "ask" or not is_count(part[1]):
        return False
    branches = part[2]
    if not isinstance(branches, (list, tuple)) or len(branches) < 2:
        return False
    if not all([_is_row(branch, 2) and isinstance(branch[0], (list, tuple)) and len(branch[0]) > 0
                for branch in branches]):
        return False
    hands = [hand for cell, _ in branches for hand in cell]
    return all([is_count(hand) for hand in hands]) and len(set(hands)) == len(hands)


def _form_of(nodes):
    forms = {}
    for index in reversed(range(len(nodes))):
        node = nodes[index]
        if node.party is None:
            forms[index] = ("end", node.outcome)
        else:
            forms[index] = ("ask", node.party, tuple([(cell, forms[to]) for cell, to in zip(node.cells, node.behind)]))
    return forms[0]


def _cut_form(node, places, forms):
    """The form of a node with the hands that have new numbers in `places`; None for a question without such hands."""
    if node.party is None:
        return ("end", node.outcome)
    branches = []
    for cell, to in zip(node.cells, node.behind):
        hands = tuple([places[node.party][hand] for hand in cell if hand in places[node.party]])
        if hands:
            branches.append((hands, forms[to]))
    if len(branches) > 1:
        return ("ask", node.party, tuple(branches))
    return branches[0][1] if branches else None
