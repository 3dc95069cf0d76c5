"""Arenas: the positions that plays of a game reach."""

from playhall.errors import NotReached, TooLarge
from playhall.positions import moves_from

LIMIT = 2000


class Arena:
    """All positions that plays of a game reach, numbered from 0, and the ways between them."""

    def __init__(self, game, *, limit=LIMIT):
        self.game = game
        self._positions = [game.start]
        self._numbers = {game.start: 0}
        self._ways = []
        # For each position the number of the one before it on its first play, and the last move.
        self._arrivals = [None]
        while len(self._ways) < len(self._positions):
            self._explore(len(self._ways), limit)

    def _explore(self, number, limit):
        ways = moves_from(self.game, self._positions[number])
        new = []
        for name, behind in ways:
            if behind not in self._numbers:
                if len(self._numbers) >= limit:
                    raise TooLarge(limit)
                self._numbers[behind] = len(self._numbers)
                new.append((name, behind))
        self._positions.extend([behind for _, behind in new])
        self._arrivals.extend([(number, name) for name, _ in new])
        self._ways.append(tuple([(name, self._numbers[behind]) for name, behind in ways]))

    @property
    def size(self):
        """The number of positions."""
        return len(self._positions)

    @property
    def positions(self):
        """The positions, by their numbers."""
        return list(self._positions)

    @property
    def ways(self):
        """For each position the names of its legal moves and the numbers behind them."""
        return list(self._ways)

    def __iter__(self):
        return iter(self._positions)

    def __contains__(self, x):
        return x in self._numbers

    def number(self, position):
        """The number of a position; raises NotReached."""
        if position not in self._numbers:
            raise NotReached(position)
        return self._numbers[position]

    def play_to(self, number):
        """The first play to the position with this number."""
        return traced(self._arrivals, number)


def traced(arrivals, at):
    """The moves that lead to an entry: each arrival is the index of the entry before and the move, or None."""
    moves = []
    while arrivals[at] is not None:
        at, name = arrivals[at]
        moves.append(name)
    return moves[::-1]
