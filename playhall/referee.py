"""The referee, who sees the signs of moves, and how long fouls can stay in doubt."""

from playhall.components import components
from playhall.errors import Impossible
from playhall.twins import lag_table, twin_net, twin_steps, ways_by_sign


def signs_of(game, play):
    """The signs of a play; raises NoMove."""
    signs = [game.move(name).sign for name in play]
    return [sign for sign in signs if sign is not None]


def report(arena, signs):
    """Whether some legal clean play, and whether some legal foul play, has these signs."""
    ways = ways_by_sign(arena)
    views = settled(ways, [(0, False)])
    for sign in signs:
        views = views_behind(ways, views, sign)
    return verdict(views)


def verdict(views):
    """Whether a clean view is left, and whether a foul one is."""
    return (any([not foul for _, foul in views]), any([foul for _, foul in views]))


def views_behind(ways, views, sign):
    """What may be the case after a sign: pairs of the number of a position and whether the play was foul."""
    return settled(ways, [(to, foul or new) for number, foul in views for _, to, new in ways[number].get(sign, [])])


def settled(ways, views):
    """What may be the case after moves without a sign."""
    seen = {view: True for view in views}
    found = list(seen)
    at = 0
    while at < len(found):
        number, foul = found[at]
        behind = [(to, foul or new) for _, to, new in ways[number].get(None, [])]
        for view in behind:
            if view not in seen:
                seen[view] = True
                found.append(view)
        at += 1
    return tuple(found)


def lag(arena):
    """The lag, or None if fouls may stay in doubt for ever."""
    table = lag_table(arena)
    if table is None:
        return None
    return max([number + 1 for number in table.values()], default=0)


def doubt(arena):
    """A foul play with as many moves behind its first foul as can be, and a clean one that looks
    alike; None if the lag is 0 or None."""
    table = lag_table(arena)
    if not table:
        return None
    ways = ways_by_sign(arena)
    most = max(list(table.values()))
    pair = [pair for pair, number in table.items() if number == most][0]
    # No play to this pair has moves behind its first foul: there would be more on the whole way.
    first, second = _way_between(ways, (0, 0, False), (*pair, True))
    later, answered = _shortest_way(
        (*pair, True),
        lambda state: _greatest_steps(ways, table, state),
        lambda state: table[(state[0], state[1])] == 0)
    return ([*first, *later], [*second, *answered])


def _greatest_steps(ways, table, state):
    """The steps behind which the first play can make all the other moves that it can make here."""
    number = table[(state[0], state[1])]
    return [step for step in twin_steps(ways, state)
            if table[(step[0][0], step[0][1])] == number - (0 if step[1] is None else 1)]


def endless_doubt(arena):
    """A foul play, its round, a clean play and its round, where both plays look alike, and so do
    the rounds; None if there is a lag."""
    states, made, unmade = twin_net(arena)
    numbers = components([[*row, *others] for row, others in zip(made, unmade)])
    inner = [(states[at], states[to]) for at, row in enumerate(made) for to in row if numbers[at] == numbers[to]]
    if not inner:
        return None
    ways = ways_by_sign(arena)
    first, second = _way_between(ways, states[0], inner[0][0])
    first_round, second_round = _round_by(ways, inner[0][0], inner[0][1])
    return (first, first_round, second, second_round)


def _round_by(ways, source, behind):
    """The moves of both plays on a way that begins with a step with a move of the first play from
    the source to the state behind, and leads back to the source."""
    first, second = [(name, answer) for state, name, answer in twin_steps(ways, source)
                     if state == behind and name is not None][0]
    later, answered = _way_between(ways, behind, source)
    return ([first, *later], answered if second is None else [second, *answered])


def _way_between(ways, source, goal):
    return _shortest_way(
        source,
        lambda state: twin_steps(ways, state),
        lambda state: state == goal)


def _shortest_way(source, steps_from, is_end):
    """The moves of both plays on a shortest way from a state to one that is an end."""
    states = [source]
    arrivals = {source: None}
    at = 0
    while not is_end(states[at]):
        present = states[at]
        new = []
        for state, first, second in steps_from(present):
            if state not in arrivals:
                arrivals[state] = (present, first, second)
                new.append(state)
        states.extend(new)
        at += 1
    return _moves_on(arrivals, states[at])


def _moves_on(arrivals, last):
    """The moves of both plays on the way to a state."""
    state, firsts, seconds = last, [], []
    while arrivals[state] is not None:
        state, first, second = arrivals[state]
        firsts.append(first)
        seconds.append(second)
    return ([name for name in firsts[::-1] if name is not None], [name for name in seconds[::-1] if name is not None])


class Referee:
    """Sees one sign after another, and tells whether clean and foul plays have these signs."""

    def __init__(self, arena):
        self._ways = ways_by_sign(arena)
        self._seen = ()
        self._views = settled(self._ways, [(0, False)])

    @property
    def signs(self):
        """The signs seen so far."""
        return list(self._seen)

    @property
    def report(self):
        """Whether some legal clean play, and whether some legal foul play, has these signs."""
        return verdict(self._views)

    def see(self, sign):
        """Takes the next sign and returns the report; raises Impossible."""
        views = views_behind(self._ways, self._views, sign)
        if not views:
            raise Impossible(sign)
        self._seen = (*self._seen, sign)
        self._views = views
        return self.report
