"""Games: players, counters, moves and goals."""

from playhall.errors import BadGame, NoCounter, NoGoal, NoMove
from playhall.names import is_label
from playhall.needs import is_need, merged_needs
from playhall.players import bad_player
from playhall.shifts import Shift


class Game:
    """A game that is written as rules."""

    def __init__(self, players, counters, moves, goals=()):
        _refuse_bad("players", bad_player(players))
        _refuse_bad("counters", _bad_counter(counters))
        self.players = tuple(players)
        self.counters = tuple([label for label, _, _ in counters])
        self.tops = tuple([top for _, top, _ in counters])
        self.start = tuple([start for _, _, start in counters])
        # The index of each counter in a position.
        self.places = {label: place for place, label in enumerate(self.counters)}
        _refuse_bad("moves", _bad_move(moves, self.players, self.places))
        _refuse_bad("goals", _bad_goal(goals, self.places))
        self.moves = tuple(moves)
        self.goals = tuple([(label, merged_needs(needs)) for label, needs in goals])
        tops = {label: top for label, top, _ in counters}
        self._moves = {move.name: move for move in self.moves}
        self._shifts = {move.name: _shift_in(move, tops) for move in self.moves}
        self._goals = {label: needs for label, needs in self.goals}

    def move(self, name):
        """The move with this name."""
        if name not in self._moves:
            raise NoMove(name)
        return self._moves[name]

    def shift(self, name):
        """The shift of the move with this name."""
        if name not in self._shifts:
            raise NoMove(name)
        return self._shifts[name]

    def goal(self, name):
        """The needs of the goal with this name."""
        if name not in self._goals:
            raise NoGoal(name)
        return self._goals[name]

    def shift_of(self, play):
        """The shift of a play."""
        return Shift.sum_of([self.shift(name) for name in play])

    def started(self, counter, value):
        """A game with another start of a counter."""
        if counter not in self.places:
            raise NoCounter(counter)
        start = [value if label == counter else old for label, old in zip(self.counters, self.start)]
        return Game(self.players, list(zip(self.counters, self.tops, start)), self.moves, self.goals)

    def __eq__(self, other):
        return (isinstance(other, Game) and self.players == other.players and self.counters == other.counters
                and self.tops == other.tops and self.start == other.start
                and self.moves == other.moves and self.goals == other.goals)


def _refuse_bad(part, index):
    if index is not None:
        raise BadGame(part, index)


def _bad_counter(counters):
    """The index of the first invalid counter, or None."""
    seen = {}
    for index, (label, top, start) in enumerate(counters):
        if label in seen or not is_label(label) or not 0 <= start <= top:
            return index
        seen[label] = True
    return None


def _bad_move(moves, players, counters):
    """The index of the first invalid move, or None."""
    seen = {}
    for index, move in enumerate(moves):
        touched = [need[0] for need in move.needs] + [change[0] for change in move.changes]
        if move.name in seen or move.player not in players or _has_other(touched, counters):
            return index
        seen[move.name] = True
    return None


def _bad_goal(goals, counters):
    """The index of the first invalid goal, or None."""
    seen = {}
    for index, (label, needs) in enumerate(goals):
        if label in seen or not is_label(label) or not all([is_need(need) for need in needs]):
            return index
        if _has_other([need[0] for need in needs], counters):
            return index
        seen[label] = True
    return None


def _has_other(labels, counters):
    return any([label not in counters for label in labels])


def _shift_in(move, tops):
    """The shift of a move in a game with these tops."""
    needs = {counter: (low, high) for counter, low, high in move.needs}
    amounts = {counter: amount for counter, amount in move.changes}
    rows = []
    for counter in {**needs, **amounts}:
        top = tops[counter]
        amount = amounts.get(counter, 0)
        low, high = needs.get(counter, (None, None))
        lows = [0, -amount] if low is None else [0, -amount, low]
        highs = [top, top - amount] if high is None else [top, top - amount, high]
        rows.append((counter, max(lows), min(highs), amount))
    return Shift(rows)
