"""How many questions carry out a rule, and the boxes that show that none do."""

from playhall.boxes import Box
from playhall.ties import groups
from playhall.trees import Tree

MOST_QUESTIONS = 100


def questions_due(rule, box):
    """The number of questions due in the box, or None if the rule cut to the box has no plain tree."""
    questions, stuck = _explored(rule, box)
    return _plans(questions)[box.sides][0] if stuck is None else None


def shortest_tree(rule, *, most=MOST_QUESTIONS):
    """A shortest plain tree, or None if there is none with a length of at most `most`."""
    questions, stuck = _explored(rule, rule.full)
    if stuck is not None:
        return None
    plans = _plans(questions)
    if plans[rule.full.sides][0] > most:
        return None
    forms = {}
    for sides, (_, question) in plans.items():
        forms[sides] = _form(rule, sides, question, forms)
    return Tree(forms[rule.full.sides])


def stuck_box(rule):
    """A stuck box, or None if the rule has a plain tree."""
    _, stuck = _explored(rule, rule.full)
    return None if stuck is None else Box(stuck)


def _explored(rule, box):
    """For the sides of each box to which questions by groups lead from a box, its questions by groups.
    If one of these boxes is stuck, its sides follow, otherwise None."""
    order = [box.sides]
    known = {box.sides: True}
    questions = {}
    while len(questions) < len(order):
        sides = order[len(questions)]
        asked = _questions_in(rule, Box(sides))
        if asked is None:
            return questions, sides
        questions[sides] = asked
        parts = [part for _, behind in asked for part in behind]
        for part in parts:
            if part not in known:
                known[part] = True
                order.append(part)
    return questions, None


def _questions_in(rule, box):
    """The questions that ask one party for its group: pairs of the party and the list of the sides behind
    the branches. There are none if all outcomes are the same. It is None if the box is stuck."""
    outcomes = [rule(combination) for combination in box]
    if all([outcome == outcomes[0] for outcome in outcomes]):
        return []
    asked = []
    for party in range(rule.parties):
        found = groups(rule, box, party)
        if len(found) > 1:
            asked.append((party, [(*box.sides[:party], side, *box.sides[party + 1:]) for side in found]))
    return asked if asked else None


def _plans(questions):
    """For the sides of each box the number of questions due, and a question with which a shortest tree
    begins, or None if it is an end. Smaller boxes come first, so what a question leads to is known."""
    plans = {}
    for sides in sorted(list(questions), key=lambda box: sum([len(side) for side in box])):
        due, chosen = 0, None
        for party, behind in questions[sides]:
            needed = 1 + max([plans[part][0] for part in behind])
            if chosen is None or needed < due:
                due, chosen = needed, (party, behind)
        plans[sides] = (due, chosen)
    return plans


def _form(rule, sides, question, forms):
    """The form of a shortest tree for a box, where `forms` has those of the boxes behind its question."""
    if question is None:
        return ("end", rule(tuple([side[0] for side in sides])))
    party, behind = question
    return ("ask", party, tuple([(part[party], forms[part]) for part in behind]))
