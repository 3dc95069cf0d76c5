"""Pairs of plays that look alike, the first one with a foul and the second one without."""

from playhall.components import components


def doubtful_pairs(arena):
    """The doubtful pairs, in ascending order."""
    states, _, _ = twin_net(arena)
    return sorted([(first, second) for first, second, foul in states if foul])


def lag_table(arena):
    """For each doubtful pair the greatest number of moves that the first play can still make,
    or None if one of these numbers has no limit."""
    states, made, unmade = twin_net(arena)
    numbers = components([[*row, *others] for row, others in zip(made, unmade)])
    if any([numbers[at] == numbers[to] for at, row in enumerate(made) for to in row]):
        return None
    # States of the same component have the same greatest number, which is kept at the component.
    most = [0 for _ in states]
    for _, at in sorted([(-number, at) for at, number in enumerate(numbers)]):
        own = numbers[at]
        found = [most[numbers[to]] + 1 for to in made[at]] + [most[numbers[to]] for to in unmade[at]]
        most[own] = max([most[own], *found])
    return {(first, second): most[number] for (first, second, foul), number in zip(states, numbers) if foul}


def twin_net(arena):
    """The states of two plays that look alike, and for each state with a foul the indexes of the
    states behind it after a step with a move of the first play, and after a step without one."""
    ways = ways_by_sign(arena)
    states = [(0, 0, False)]
    places = {states[0]: 0}
    made, unmade = [], []
    while len(made) < len(states):
        present = states[len(made)]
        steps_made, steps_unmade = {}, {}
        new = []
        for state, name, _ in twin_steps(ways, present):
            if state not in places:
                places[state] = len(places)
                new.append(state)
            if present[2]:
                rows = steps_unmade if name is None else steps_made
                rows[places[state]] = True
        states.extend(new)
        made.append(list(steps_made))
        unmade.append(list(steps_unmade))
    return states, made, unmade


def ways_by_sign(arena):
    """For each position a dict from signs, and None, to the ways with it: a list of tuples of
    the name of the move, the number of the position behind it, and whether it is a foul."""
    moves = {move.name: move for move in arena.game.moves}
    found = []
    for row in arena.ways:
        sorted_row = {}
        for name, to in row:
            sorted_row.setdefault(moves[name].sign, []).append((name, to, moves[name].foul))
        found.append(sorted_row)
    return found


def twin_steps(ways, state):
    """The steps of two plays that look alike. A state is the pair of the positions and whether
    the first play is foul. A step is the state behind it and the names of the move of the first
    and of the second play, or None where one makes none."""
    first, second, foul = state
    behind = [((to, second, foul or new), name, None) for name, to, new in ways[first].get(None, [])]
    behind.extend([((first, to, foul), None, name) for name, to, new in ways[second].get(None, []) if not new])
    for sign, row in ways[first].items():
        if sign is not None and sign in ways[second]:
            answered = [(to, name) for name, to, new in ways[second][sign] if not new]
            behind.extend([((to, place, foul or new), name, answer)
                           for name, to, new in row for place, answer in answered])
    return behind
