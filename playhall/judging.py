"""How trees of questions do for rules."""

from playhall.askerrors import BadAnswer
from playhall.boxes import Box
from playhall.ties import greatest_worth, least_worth, reaches
from playhall.trees import branch_of


def box_at(rule, tree, path):
    """The box at the path; raises BadAnswer if the path leads to no place."""
    node = tree.nodes[0]
    sides = rule.full.sides
    for branch in path:
        if not 0 <= branch < len(node.behind):
            raise BadAnswer(node.path)
        sides = _sides_behind(sides, node, branch)
        node = tree.nodes[node.behind[branch]]
    return Box(sides)


def _sides_behind(sides, node, branch):
    """The sides behind a branch of a question."""
    return (*sides[:node.party], node.cells[branch], *sides[node.party + 1:])


def fits(rule, tree):
    """Whether each question asks a party for just the hands that it may have there."""
    sides = {0: rule.full.sides}
    for index, node in enumerate(tree.nodes):
        if node.party is not None:
            if node.party >= rule.parties:
                return False
            if sorted([hand for cell in node.cells for hand in cell]) != list(sides[index][node.party]):
                return False
            for branch, to in enumerate(node.behind):
                sides[to] = _sides_behind(sides[index], node, branch)
    return True


def first_wrong(rule, tree):
    """The first combination whose honest answers do not lead to the rule's outcome, or None."""
    for combination in rule.full:
        if tree(combination) != rule(combination):
            return combination
    return None


def lures(rule, tree):
    """Where a departure promises more than honesty: tuples of the path of the question, the hand,
    its floor and the promise."""
    found = []
    for node in tree.nodes:
        if node.party is not None:
            found.extend(_lures_at(rule, node, box_at(rule, tree, node.path)))
    return sorted(found)


def _lures_at(rule, node, box):
    reached = reaches(rule, box, node.party)
    found = []
    for cell in node.cells:
        outside = [outcome for hand, outcomes in reached.items() if hand not in cell for outcome in outcomes]
        for hand in cell:
            least = least_worth(rule, node.party, hand, reached[hand])
            most = greatest_worth(rule, node.party, hand, outside)
            if least < most:
                found.append((node.path, hand, least, most))
    return found


def parting(box, tree):
    """The path of the first question whose cells part a side of the box, or None."""
    node = tree.nodes[0]
    while node.party is not None:
        side = box.sides[node.party]
        branch = branch_of(node, side[0])
        if not all([hand in node.cells[branch] for hand in side]):
            return node.path
        node = tree.nodes[node.behind[branch]]
    return None
