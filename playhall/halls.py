"""Halls, which join the games of many tables."""

from playhall.errors import BadHall, NoTable
from playhall.games import Game
from playhall.moves import Move
from playhall.names import is_name


class Hall:
    """Purses and tables, and the game that joins the games of the tables."""

    def __init__(self, purses, tables):
        _refuse_bad("purses", _bad_purse(purses))
        _refuse_bad("tables", _bad_table(purses, tables))
        self._games = {name: game for name, game in tables}
        self._names = tuple(self._games)
        self._purses = tuple([name for name, _, _ in purses])
        self.game = _joined_game(purses, tables)

    def __iter__(self):
        return iter(self._names)

    def __getitem__(self, at):
        if at not in self._games:
            raise NoTable(at)
        return self._games[at]

    def table_play(self, play, name):
        """The play of a table in a play of the hall; raises NoTable, NoMove."""
        prefix = f"{name}."
        own = {f"{prefix}{move.name}": move.name for move in self[name].moves}
        for label in play:
            self.game.move(label)
        return [own[label] for label in play if label in own]

    def table_position(self, position, name):
        """The values of the counters of a table's game in a position of the hall; raises NoTable."""
        labels = [_counter_label(self._purses, name, counter) for counter in self[name].counters]
        return tuple([position[self.game.places[label]] for label in labels])


def _refuse_bad(part, index):
    if index is not None:
        raise BadHall(part, index)


def _bad_purse(purses):
    """The index of the first invalid purse, or None."""
    seen = {}
    for index, (name, top, start) in enumerate(purses):
        if name in seen or not is_name(name) or not 0 <= start <= top:
            return index
        seen[name] = True
    return None


def _bad_table(purses, tables):
    """The index of the first invalid table, or None; it is 0 if there is no table."""
    held = {name: (top, start) for name, top, start in purses}
    seen = {}
    for index, (name, game) in enumerate(tables):
        if name in seen or not is_name(name) or not _fits(game, held):
            return index
        seen[name] = True
    return None if seen else 0


def _fits(game, held):
    """Whether the labels of a game are names and its counters do not differ from the purses."""
    signs = [move.sign for move in game.moves if move.sign is not None]
    goals = [label for label, _ in game.goals]
    if not all([is_name(label) for label in [*game.counters, *[move.name for move in game.moves], *signs, *goals]]):
        return False
    return all([held.get(label, (top, start)) == (top, start)
                for label, top, start in zip(game.counters, game.tops, game.start)])


def _joined_game(purses, tables):
    """The game of a hall."""
    held = [purse[0] for purse in purses]
    players = {player: True for _, game in tables for player in game.players}
    counters = list(purses)
    moves = []
    goals = []
    for name, game in tables:
        labels = {counter: _counter_label(held, name, counter) for counter in game.counters}
        counters.extend([(labels[label], top, start)
                         for label, top, start in zip(game.counters, game.tops, game.start) if label not in held])
        moves.extend([_move_at(name, move, labels) for move in game.moves])
        goals.extend([(f"{name}.{label}", _needs_at(needs, labels)) for label, needs in game.goals])
    return Game(list(players), counters, moves, goals)


def _counter_label(held, name, counter):
    return counter if counter in held else f"{name}.{counter}"


def _move_at(name, move, labels):
    """A move of a table as a move of the hall."""
    changes = [(labels[counter], amount) for counter, amount in move.changes]
    sign = None if move.sign is None else f"{name}.{move.sign}"
    return Move(f"{name}.{move.name}", move.player, _needs_at(move.needs, labels), changes, sign=sign, foul=move.foul)


def _needs_at(needs, labels):
    return [(labels[counter], low, high) for counter, low, high in needs]
