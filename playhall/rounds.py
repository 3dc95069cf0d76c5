"""Rounds, which run trees, and turns, which are taken as a whole or not at all."""

from playhall.askerrors import BadAnswer, BadTurn
from playhall.trees import branch_of

PATIENCE = 3
FIRST = 0


class Place:
    """Where a round is. It is never changed: an answer or a silence leads to a new one."""

    def __init__(self, node, history, silences):
        self.node = node
        self.history = history
        self.silences = silences


class Round:
    """A tree that is run: the parties say branches, honestly or not, or stay silent."""

    def __init__(self, tree, *, patience=PATIENCE, default=FIRST):
        self._tree = tree
        self._patience = patience
        self._default = default
        self._go_to(Place(tree.nodes[0], (), 0))

    def _go_to(self, place):
        self._place = place
        self.path = place.node.path
        self.history = place.history
        self.silences = place.silences
        self.party = place.node.party
        self.cells = place.node.cells
        self.outcome = place.node.outcome

    def say(self, party, branch):
        """Takes an answer and returns the outcome, or None before the end; raises BadAnswer."""
        self._go_to(_said(self._tree, self._place, party, branch))
        return self.outcome

    def wait(self):
        """Takes a silence and returns whether the default branch was taken; raises BadAnswer."""
        answered = len(self.history)
        self._go_to(self._waited(self._place))
        return len(self.history) > answered

    def _waited(self, place):
        """The place behind one more silence."""
        if place.node.party is None:
            raise BadAnswer(place.node.path)
        if place.silences + 1 < self._patience:
            return Place(place.node, place.history, place.silences + 1)
        return _behind(self._tree, place, min(self._default, len(place.node.cells) - 1), False)

    def take(self, answers):
        """Takes all of the answers, or none, and returns the outcome, or None before the end; raises BadTurn."""
        place = self._place
        for index, answer in enumerate(answers):
            try:
                place = self._waited(place) if answer is None else _said(self._tree, place, answer[0], answer[1])
            except BadAnswer as refusal:
                raise BadTurn(index) from refusal
        self._go_to(place)
        return self.outcome

    def honest(self, hand):
        """The branch of the honest answer to the current question; raises BadAnswer."""
        branch = branch_of(self._place.node, hand)
        if branch is None:
            raise BadAnswer(self.path)
        return branch


def _said(tree, place, party, branch):
    """The place behind an answer."""
    if party != place.node.party or not 0 <= branch < len(place.node.cells):
        raise BadAnswer(place.node.path)
    return _behind(tree, place, branch, True)


def _behind(tree, place, branch, said):
    """The place behind a branch."""
    entry = (place.node.party, branch, said)
    return Place(tree.nodes[place.node.behind[branch]], (*place.history, entry), 0)


class Entrance:
    """Where a round was when a block was entered, and what was kept for the blocks around it."""

    def __init__(self, place, outer):
        self.place = place
        self.outer = outer


class Turn:
    """A block from which an error leaves the round as it was when the block was entered."""

    def __init__(self, run):
        self._held = run
        self._kept = None

    def __enter__(self):
        self._kept = Entrance(self._held._place, self._kept)
        return self._held

    def __exit__(self, kind, value, trace):
        if kind is not None:
            self._held._place = self._kept.place
            self._held.path = self._kept.place.node.path
            self._held.history = self._kept.place.history
            self._held.silences = self._kept.place.silences
            self._held.party = self._kept.place.node.party
            self._held.cells = self._kept.place.node.cells
            self._held.outcome = self._kept.place.node.outcome
        self._kept = self._kept.outer


def turned(run, deed):
    """What `deed` returns for the round within a block of Turn."""
    with Turn(run) as held:
        return deed(held)
