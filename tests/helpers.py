"""What several tests need: a check of errors, sample games, and plain enumerations to compare with."""

import random
import unittest

from playhall.games import Game
from playhall.gametext import read_game
from playhall.moves import Move


class Checks(unittest.TestCase):
    def refused(self, error, fields, call, *args, **named):
        """Checks that the call raises exactly this error with these attributes, and returns it."""
        with self.assertRaises(error) as caught:
            call(*args, **named)
        self.assertIs(caught.exception.__class__, error)
        self.assertEqual(vars(caught.exception), fields)
        return caught.exception


NIM = read_game("\n".join([
    "players ann bob",
    "counter stones 5 5",
    "counter turn 1 0",
    "move aone ann if turn=0 do stones-1 turn+1",
    "move atwo ann if turn=0 do stones-2 turn+1",
    "move bone bob if turn=1 do stones-1 turn-1",
    "move btwo bob if turn=1 do stones-2 turn-1",
    "goal alost if stones=0 turn=0",
    "goal blost if stones=0 turn=1",
]))

# Three counters, moves that share some of them, and moves that touch none.
WIDE = Game(
    ["p"],
    [("x", 9, 5), ("y", 9, 5), ("z", 9, 5)],
    [
        Move("xup", "p", [], [("x", 1)]),
        Move("ydown", "p", [], [("y", -1)]),
        Move("both", "p", [("x", 1, None)], [("y", 1)]),
        Move("zzz", "p", [("z", 0, 9)], []),
        Move("nod", "p", [], []),
        Move("wave", "p", [], []),
    ],
)


def random_game(rng, *, counters=2, top=2, moves=4, players=("ann", "bob"), goals=2):
    """A small game, always the same one for the same state of `rng`."""
    labels = ["c", "b", "a", "d"][:counters]
    parts = [(label, rng.randint(1, top), 0) for label in labels]
    parts = [(label, high, rng.randint(0, high)) for label, high, _ in parts]

    def needs():
        chosen = [label for label in labels if rng.random() < 0.4]
        return [(label, rng.choice([0, 1, None]), rng.choice([1, 2])) for label in chosen]

    def changes():
        chosen = [label for label in labels if rng.random() < 0.6]
        return [(label, rng.choice([-2, -1, 1, 1])) for label in chosen]

    names = ["m", "k", "n", "j", "o", "i"][:moves]
    made = [
        Move(name, rng.choice(players), needs(), changes(),
             sign=rng.choice([None, "s", "t"]), foul=rng.random() < 0.2)
        for name in names
    ]
    ends = [(label, needs()) for label in ["g", "f", "h"][:goals]]
    return Game(list(players), parts, made, ends)


def random_games(seed, count, **kinds):
    rng = random.Random(seed)
    return [random_game(rng, **kinds) for _ in range(count)]


def step(game, position, name):
    """The position behind a move by the words of point 8, or None."""
    move = game.move(name)
    values = dict(zip(game.counters, position))
    for counter, low, high in move.needs:
        if low is not None and values[counter] < low:
            return None
        if high is not None and values[counter] > high:
            return None
    for counter, amount in move.changes:
        values[counter] += amount
    result = tuple(values[counter] for counter in game.counters)
    if all(0 <= value <= top for value, top in zip(result, game.tops)):
        return result
    return None


def end(game, position, play):
    """The position behind a play, or None if it is not legal."""
    for name in play:
        if position is not None:
            position = step(game, position, name)
    return position


def all_plays(game, position, length):
    """All legal plays up to a length with the positions behind them, shorter ones first, then by the moves."""
    plays = [((), position)]
    level = plays
    for _ in range(length):
        level = [
            (play + (move.name,), step(game, place, move.name))
            for play, place in level for move in game.moves
            if step(game, place, move.name) is not None
        ]
        plays = plays + level
    return plays
