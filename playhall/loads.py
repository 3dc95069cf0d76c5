"""Loads: what the sessions that are started ask for from the present beat on."""

from playhall.houseerrors import NoSession, NotEnough


def empty_load(house):
    """The load without sessions."""
    return tuple([tuple([0 for _ in house.tools]) for _ in range(house.horizon)])


def after_beat(load):
    """The load after a beat."""
    return (*load[1:], tuple([0 for _ in load[0]]))


def after_start(house, load, index):
    """The load after a start of the session with this index; raises NoSession, NotEnough."""
    menu = house.menu
    if not 0 <= index < len(menu):
        raise NoSession(index)
    lack = _lack(house, load, menu[index])
    if lack is not None:
        raise NotEnough(lack[0], lack[1])
    return _with_needs(house, load, menu[index])


def _lack(house, load, session):
    """The beat and the tool of the first need for which the tool is not enough, or None."""
    places = _places(house)
    for beat, tool, amount in session.needs:
        place = places[tool]
        if load[beat][place] + amount > house.numbers[place]:
            return (beat, tool)
    return None


def _with_needs(house, load, session):
    """The load with the needs of a session."""
    places = _places(house)
    rows = [list(row) for row in load]
    for beat, tool, amount in session.needs:
        rows[beat][places[tool]] += amount
    return tuple([tuple(row) for row in rows])


def _places(house):
    """For each tool its place in the rows of loads."""
    return {tool: place for place, tool in enumerate(house.tools)}


def steps(house, load):
    """Yields `(index, load after the start)` for each session that fits, and then `(None, load after a beat)`."""
    for index, session in enumerate(house.menu):
        if _lack(house, load, session) is None:
            yield (index, _with_needs(house, load, session))
    yield (None, after_beat(load))


def all_loads(house):
    """All reachable loads."""
    found = [empty_load(house)]
    known = {found[0]: True}
    at = 0
    while at < len(found):
        present = found[at]
        new = []
        for _, load in steps(house, present):
            if load not in known:
                known[load] = True
                new.append(load)
        found.extend(new)
        at += 1
    return found
