"""Marking moves with signs of their own, so that fouls do not stay in doubt."""

from playhall.arenas import LIMIT, Arena
from playhall.games import Game
from playhall.moves import Move
from playhall.referee import lag

_LETTERS = "abcdefghijklmnopqrstuvwxyz"


def marked(game, names):
    """The game in which these moves have signs that no other move has; raises NoMove."""
    for name in names:
        game.move(name)
    fresh = _free_labels({move.sign: True for move in game.moves}, len(names))
    signs = {name: sign for name, sign in zip(names, fresh)}
    moves = [_with_sign(move, signs.get(move.name, move.sign)) for move in game.moves]
    return Game(game.players, list(zip(game.counters, game.tops, game.start)), moves, game.goals)


def _with_sign(move, sign):
    return Move(move.name, move.player, move.needs, move.changes, sign=sign, foul=move.foul)


def _free_labels(taken, count):
    """As many labels that are not taken."""
    labels = []
    number = 0
    while len(labels) < count:
        label = _spelled(number)
        if label not in taken:
            labels.append(label)
        number += 1
    return labels


def _spelled(number):
    """A label for the number, another one for each number."""
    letters = _LETTERS[number % len(_LETTERS)]
    rest = number // len(_LETTERS)
    while rest > 0:
        letters = _LETTERS[rest % len(_LETTERS)] + letters
        rest = rest // len(_LETTERS)
    return "seen" + letters


def least_marks(game, most, *, limit=LIMIT):
    """The first shortest list of moves that bring the lag down to `most` if they are marked; raises TooLarge."""
    indexes = list(range(len(game.moves)))
    # Marking more moves never makes the lag greater, so a move is needed if all others are not enough.
    needed = [index for index in indexes
              if not _is_enough(game, [other for other in indexes if other != index], most, limit)]
    lists = [()]
    # This ends at the latest with the list of all fouls.
    while True:
        for marks in lists:
            if all([index in marks for index in needed]) and _is_enough(game, marks, most, limit):
                return _names_at(game, marks)
        lists = [(*marks, index) for marks in lists for index in indexes if not marks or index > marks[-1]]


def _is_enough(game, indexes, most, limit):
    """Whether the lag is at most `most` if the moves with these indexes are marked."""
    found = lag(Arena(marked(game, _names_at(game, indexes)), limit=limit))
    return found is not None and found <= most


def _names_at(game, indexes):
    return [game.moves[index].name for index in indexes]
