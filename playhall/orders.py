"""Orders of plays: which moves can be exchanged, and what follows from it."""

from playhall.errors import Clash


def meet(game, one, other):
    """Whether two moves have rows of the same counter."""
    first, second = _touched(game, [one, other])
    return _share(first, second)


def _touched(game, play):
    """For each move of a play the list of the counters that it touches; raises NoMove."""
    return [[row[0] for row in game.shift(name).rows] for name in play]


def _share(counters, others):
    return any([counter in others for counter in counters])


def order_gap(game, one, other):
    """The first gap of two plays, or None if they are akin."""
    touched, other_touched = _touched(game, one), _touched(game, other)
    for counter in game.counters:
        first = [name for name, counters in zip(one, touched) if counter in counters]
        second = [name for name, counters in zip(other, other_touched) if counter in counters]
        if first != second:
            return (counter, _first_difference(first, second))
    for move in game.moves:
        # The numbers of a move that touches a counter are equal here.
        if list(one).count(move.name) != list(other).count(move.name):
            return (None, move.name)
    return None


def _first_difference(first, second):
    index = 0
    while first[index:index + 1] == second[index:index + 1]:
        index += 1
    return index


def least_order(game, play):
    """The first one of all akin plays."""
    places = {move.name: place for place, move in enumerate(game.moves)}
    links = _links(_touched(game, play))
    waiting = {index: True for index in range(len(play))}
    order = []
    while waiting:
        free = [index for index in waiting if not _share(links[index], waiting)]
        index = min(free, key=lambda at: (places[play[at]], at))
        del waiting[index]
        order.append(play[index])
    return order


def _links(touched):
    """For each index the last earlier index that touches each of its counters. Each earlier
    move that it meets is linked, or is linked to one of these, or further on in this way."""
    latest = {}
    links = []
    for index, counters in enumerate(touched):
        links.append([latest[counter] for counter in counters if counter in latest])
        latest.update({counter: index for counter in counters})
    return links


def _levels(links):
    """The stage of each index."""
    levels = []
    for earlier in links:
        levels.append(max([levels[index] + 1 for index in earlier], default=0))
    return levels


def stages(game, play):
    """For each stage the ascending list of its indexes."""
    levels = _levels(_links(_touched(game, play)))
    found = [[] for _ in range(max(levels, default=-1) + 1)]
    for index, level in enumerate(levels):
        found[level].append(index)
    return found


def longest_chain(game, play):
    """A longest list of indexes in which each move meets the next one."""
    links = _links(_touched(game, play))
    levels = _levels(links)
    if not levels:
        return []
    chain = [levels.index(max(levels))]
    while links[chain[-1]]:
        chain.append(max(links[chain[-1]], key=lambda index: levels[index]))
    return chain[::-1]


def going_with(game, play, index):
    """The index, and each later index whose move meets the move of an earlier one of them."""
    touched = _touched(game, play)
    going = [index]
    counters = {counter: True for counter in touched[index]}
    for later in range(index + 1, len(play)):
        if _share(touched[later], counters):
            going.append(later)
            counters.update({counter: True for counter in touched[later]})
    return going


def without(game, play, index):
    """The rest of the play, and the moves that go with the index."""
    going = going_with(game, play, index)
    rest = [name for at, name in enumerate(play) if at not in going]
    return rest, [play[at] for at in going]


def merged(game, base, one, other):
    """The play base + one + other; raises Clash."""
    for name in base:
        game.move(name)
    touched, other_touched = _touched(game, one), _touched(game, other)
    for first, counters in enumerate(touched):
        for second, other_counters in enumerate(other_touched):
            if _share(counters, other_counters):
                raise Clash(first, second)
    return [*base, *one, *other]
