"""Gifts: moves of a play into a trap or out of it."""

from playhall.forcing import forced_ranks
from playhall.positions import walk


def gifts(arena, play, team, targets):
    """Yields `(index, player, forced)` for each gift; raises BadPlay, NoPlayer."""
    numbers = [arena.number(position) for position in walk(arena.game, play)]
    ranks = forced_ranks(arena, team, targets)
    for index, name in enumerate(play):
        old, new = ranks.get(numbers[index]), ranks.get(numbers[index + 1])
        out = old is None and new is not None
        into = old is not None and old > 0 and new is None
        if out or into:
            yield (index, arena.game.move(name).player, out)


def first_gift(arena, play, team, targets):
    """The index of the first gift of the team's own, or None; raises BadPlay, NoPlayer."""
    for index, _, forced in gifts(arena, play, team, targets):
        if not forced:
            return index
    return None
