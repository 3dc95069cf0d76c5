"""Boxes: sets of combinations with a side of hands for each party."""

from playhall.askerrors import BadBox
from playhall.combos import all_combinations
from playhall.counts import is_count


class Box:
    """The combinations whose hands all lie in the sides."""

    def __init__(self, sides):
        if not sides or not all([is_count(hand) for side in sides for hand in side]):
            raise BadBox()
        self.sides = tuple([tuple(sorted(set(side))) for side in sides])
        self._combinations = tuple(all_combinations(self.sides))

    def __iter__(self):
        return iter(self._combinations)

    def __contains__(self, x):
        return len(x) == len(self.sides) and all([is_count(hand) and hand in side for hand, side in zip(x, self.sides)])

    def __getitem__(self, at):
        return self.sides[at]

    def within(self, other):
        """Whether every combination of this box is in the other one."""
        if is_empty(self):
            return True
        return all([hand in others for side, others in zip(self.sides, other.sides) for hand in side])

    def __and__(self, other):
        return Box(_common_sides(self, other))

    def __sub__(self, other):
        common = _common_sides(self, other)
        found = []
        for party, side in enumerate(self.sides):
            rest = [hand for hand in side if hand not in other.sides[party]]
            sides = [*common[:party], rest, *self.sides[party + 1:]]
            if all([len(part) > 0 for part in sides]):
                found.append(Box(sides))
        return found

    def with_side(self, party, side):
        """The box with another side of the party; raises BadBox."""
        return Box([*self.sides[:party], side, *self.sides[party + 1:]])


def is_empty(box):
    """Whether the box has an empty side, and so no combination."""
    return any([len(side) == 0 for side in box.sides])


def _common_sides(box, other):
    return [[hand for hand in side if hand in others] for side, others in zip(box.sides, other.sides)]
