"""The players that games and seasons are made with."""

from playhall.names import is_label


def bad_player(players):
    """The index of the first player that is not a label or occurs before, or None; it is 0 if there is no player."""
    seen = {}
    for index, player in enumerate(players):
        if player in seen or not is_label(player):
            return index
        seen[player] = True
    return None if seen else 0
