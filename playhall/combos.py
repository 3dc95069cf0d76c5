"""Combinations of hands."""


def combinations(sides):
    """Yields all combinations with one hand of each side; the last side changes fastest."""
    many = 1
    for side in sides:
        many = many * len(side)
    for number in range(many):
        yield _combination(sides, number)


def _combination(sides, number):
    """The combination with this number, counted from 0."""
    hands = []
    rest = number
    for side in list(sides)[::-1]:
        hands.append(side[rest % len(side)])
        rest = rest // len(side)
    return tuple(hands[::-1])
