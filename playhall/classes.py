"""Classes of alike positions, and least forms of arenas."""

from playhall.likeness import compared, face


def classes(arena):
    """The numbers of the classes, one for each position."""
    ways = arena.ways
    numbers = _numbered([face(arena.game, position) for position in arena.positions])
    count = 0
    # Classes are only ever split, so they are final when there are no more of them than before.
    while max(numbers) >= count:
        count = max(numbers) + 1
        behind = [tuple([numbers[to] for _, to in row]) for row in ways]
        numbers = _numbered(list(zip(numbers, behind)))
    return tuple(numbers)


def _numbered(marks):
    """Equal marks get equal numbers, from 0, in the order in which they first occur."""
    known = {}
    for mark in marks:
        if mark not in known:
            known[mark] = len(known)
    return [known[mark] for mark in marks]


def parting_between(arena, number, other):
    """The parting play of two positions, or None if they are alike."""
    positions = arena.positions
    return compared(arena.game, positions[number], arena.game, positions[other])[1]


def least_form(arena):
    """One row for each class: its face, and the rows to which its legal moves lead."""
    numbers = classes(arena)
    members = {}
    for position, number in enumerate(numbers):
        members.setdefault(number, position)
    named = [sorted([(name, numbers[to]) for name, to in row]) for row in arena.ways]
    ways = {number: named[member] for number, member in members.items()}
    places = _places_behind(ways, numbers[0])
    positions = arena.positions
    rows = []
    for number in places:
        row = tuple([(name, places[to]) for name, to in ways[number]])
        rows.append((face(arena.game, positions[members[number]]), row))
    return tuple(rows)


def _places_behind(ways, first):
    """The rows of the classes, in the order in which the ways from the first class lead to them."""
    order = [first]
    places = {first: 0}
    at = 0
    while at < len(order):
        new = []
        for _, number in ways[order[at]]:
            if number not in places:
                places[number] = len(places)
                new.append(number)
        order.extend(new)
        at += 1
    return places
