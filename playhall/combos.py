"""Combinations of hands."""


def combinations(sides):
    """Yields all combinations with one hand of each side; the last side changes fastest."""
    for number in range(_how_many(sides)):
        yield _combination(sides, number)


def all_combinations(sides):
    """The list of what `combinations` yields. No generator runs here, so that operators may ask for it."""
    return [_combination(sides, number) for number in range(_how_many(sides))]


def _how_many(sides):
    """The number of the combinations."""
    many = 1
    for side in sides:
        many = many * len(side)
    return many


def _combination(sides, number):
    """The combination with this number, counted from 0."""
    hands = []
    rest = number
    for side in list(sides)[::-1]:
        hands.append(side[rest % len(side)])
        rest = rest // len(side)
    return tuple(hands[::-1])
