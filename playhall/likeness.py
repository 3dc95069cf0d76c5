"""Likeness of positions and of games, and the plays that part them."""

from playhall.arenas import LIMIT, traced
from playhall.errors import TooLarge
from playhall.positions import goals_at, moves_from


def face(game, position):
    """What can be seen of a position: the goals that hold and the legal moves."""
    return _face_with(game, position, moves_from(game, position))


def _face_with(game, position, ways):
    moves = [game.move(name) for name in sorted([name for name, _ in ways])]
    shown = [(move.name, move.player, move.sign, move.foul) for move in moves]
    return (tuple(sorted(goals_at(game, position))), tuple(shown))


def likeness(game, other, *, limit=LIMIT):
    """All common pairs in their order, or None if the games are not alike; raises TooLarge."""
    pairs, parting = compared(game, game.start, other, other.start, limit)
    return pairs if parting is None else None


def parting_play(game, other, *, limit=LIMIT):
    """The parting play of the starts, or None if the games are alike; raises TooLarge."""
    return compared(game, game.start, other, other.start, limit)[1]


def compared(game, first, other, second, limit=None):
    """The common pairs from a pair of positions on, and None; or the pairs that were found
    before one with different faces was looked at, and the parting play. Raises TooLarge."""
    pairs = [(first, second)]
    seen = {pairs[0]: True}
    arrivals = [None]
    at = 0
    while at < len(pairs):
        if limit is not None and at >= limit:
            raise TooLarge(limit)
        behind = _pairs_behind(game, other, pairs[at])
        if behind is None:
            return pairs, traced(arrivals, at)
        new = []
        for name, pair in behind:
            if pair not in seen:
                seen[pair] = True
                new.append(pair)
                arrivals.append((at, name))
        pairs.extend(new)
        at += 1
    return pairs, None


def _pairs_behind(game, other, pair):
    """For each legal move its name and the pair behind it, or None if the faces are different."""
    first, second = pair
    ways = moves_from(game, first)
    other_ways = moves_from(other, second)
    if _face_with(game, first, ways) != _face_with(other, second, other_ways):
        return None
    behind = dict(other_ways)
    return [(name, (position, behind[name])) for name, position in ways]


def check_likeness(game, other, pairs):
    """Whether the list of pairs is a likeness of the two games."""
    listed = {pair: True for pair in pairs}
    if (game.start, other.start) not in listed:
        return False
    return all([_belongs(game, other, pair, listed) for pair in listed])


def _belongs(game, other, pair, listed):
    """Whether a pair has equal faces and all pairs behind it are listed."""
    first, second = pair
    if not (_is_position(game, first) and _is_position(other, second)):
        return False
    behind = _pairs_behind(game, other, pair)
    return behind is not None and all([later in listed for _, later in behind])


def _is_position(game, values):
    if len(values) != len(game.counters):
        return False
    return all([0 <= value <= top for value, top in zip(values, game.tops)])
