"""Positions of games, and what moves make of them."""

from playhall.errors import BadPlay


def holds(game, goal, position):
    """Whether the goal holds in the position."""
    return _fulfils(game, game.goal(goal), position)


def goals_at(game, position):
    """The labels of the goals that hold in the position."""
    return [label for label, needs in game.goals if _fulfils(game, needs, position)]


def _fulfils(game, needs, position):
    for counter, low, high in needs:
        value = position[game.places[counter]]
        if (low is not None and value < low) or (high is not None and value > high):
            return False
    return True


def legal(game, position):
    """The names of the moves that are legal in the position."""
    return [name for name, _ in moves_from(game, position)]


def moves_from(game, position):
    """For each legal move, in the order of the game, its name and the position behind it."""
    found = []
    for move in game.moves:
        behind = _behind(game, position, game.shift(move.name))
        if behind is not None:
            found.append((move.name, behind))
    return found


def _behind(game, position, shift):
    """The position behind a shift, or None if the shift cannot be made in this position."""
    values = list(position)
    for counter, low, high, amount in shift.rows:
        place = game.places[counter]
        if not low <= values[place] <= high:
            return None
        values[place] += amount
    return tuple(values)


def after(game, position, name, *, times=1):
    """The position after the move has been made `times` times; raises NoMove, Blocked."""
    return _shifted(game, position, game.shift(name) * times)


def before(game, position, name, *, times=1):
    """The position from which `times` such moves lead to this one; raises NoMove, Blocked."""
    return _shifted(game, position, ~(game.shift(name) * times))


def _shifted(game, position, shift):
    values = shift.applied(dict(zip(game.counters, position)))
    return tuple([values[counter] for counter in game.counters])


def walk(game, play):
    """Yields the start and the position after each move; raises BadPlay."""
    shifts = {move.name: game.shift(move.name) for move in game.moves}
    position = game.start
    yield position
    for index, name in enumerate(play):
        position = _behind(game, position, shifts[name]) if name in shifts else None
        if position is None:
            raise BadPlay(index)
        yield position


def end_of(game, play):
    """The position to which the play leads; raises BadPlay."""
    return list(walk(game, play))[-1]
