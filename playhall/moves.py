"""Moves of games."""

from playhall.errors import BadMove
from playhall.names import is_label
from playhall.needs import is_need, merged_needs


class Move:
    """A move with its needs and changes, the sign that it shows, and whether it is a foul."""

    def __init__(self, name, player, needs, changes, *, sign=None, foul=False):
        if not is_label(name):
            raise BadMove("name")
        if not is_label(player):
            raise BadMove("player")
        if not all([is_need(need) for need in needs]):
            raise BadMove("needs")
        if not all([is_label(counter) for counter, _ in changes]):
            raise BadMove("changes")
        if sign is not None and not is_label(sign):
            raise BadMove("sign")
        self.name = name
        self.player = player
        self.needs = merged_needs(needs)
        self.changes = _merged_changes(changes)
        self.sign = sign
        self.foul = foul

    def __eq__(self, other):
        return (isinstance(other, Move) and self.name == other.name and self.player == other.player
                and self.needs == other.needs and self.changes == other.changes
                and self.sign == other.sign and self.foul == other.foul)


def _merged_changes(changes):
    sums = {}
    for counter, amount in changes:
        sums[counter] = sums.get(counter, 0) + amount
    return tuple([(counter, sums[counter]) for counter in sorted(sums) if sums[counter] != 0])
