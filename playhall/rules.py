"""Rules: an outcome for each combination of hands, and what the outcomes are worth."""

from playhall.askerrors import BadBox, BadRule
from playhall.boxes import Box, is_empty
from playhall.counts import is_count, is_integer


class Rule:
    """Worths of the outcomes to each party with each hand, and the table of the outcomes."""

    def __init__(self, worths, table):
        if not _are_worths(worths):
            raise BadRule("worths")
        if not _is_table(table, worths):
            raise BadRule("table")
        self.parties = len(worths)
        self.outcomes = len(worths[0][0])
        self.sizes = tuple([len(hands) for hands in worths])
        self.full = Box([list(range(size)) for size in self.sizes])
        self._worths = tuple([tuple([tuple(row) for row in hands]) for hands in worths])
        self._table = {combination: outcome for combination, outcome in zip(self.full, table)}

    def __call__(self, combination):
        return self._table[combination]

    def worth(self, party, hand, outcome):
        """The worth of the outcome to the party with the hand."""
        return self._worths[party][hand][outcome]

    def cut(self, box):
        """The rule with the hands in the box, numbered anew; raises BadBox."""
        if len(box.sides) != self.parties or is_empty(box):
            raise BadBox()
        if any([side[-1] >= size for side, size in zip(box.sides, self.sizes)]):
            raise BadBox()
        worths = [[self._worths[party][hand] for hand in side] for party, side in enumerate(box.sides)]
        return Rule(worths, [self._table[combination] for combination in box])


def _are_worths(worths):
    """Whether each party has hands, and each hand as many worths, which are integers."""
    if not worths or not all([len(hands) > 0 for hands in worths]):
        return False
    rows = [row for hands in worths for row in hands]
    many = len(rows[0])
    return many > 0 and all([len(row) == many and all([is_integer(worth) for worth in row]) for row in rows])


def _is_table(table, worths):
    """Whether the table has an outcome for each combination."""
    many = 1
    for hands in worths:
        many = many * len(hands)
    outcomes = len(worths[0][0])
    return len(table) == many and all([is_count(outcome) and outcome < outcomes for outcome in table])
