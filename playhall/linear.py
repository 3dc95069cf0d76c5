"""Linear questions about vectors of integers."""

from math import gcd, lcm


def rank_of(vectors):
    """The greatest number of linearly independent vectors of the list."""
    width = len(vectors[0]) if vectors else 0
    return len(_reduced(vectors, width))


def combination(vectors, goal):
    """Factors of the vectors, and a divisor, which give the goal; or None."""
    width = len(vectors)
    rows = [[*[vector[place] for vector in vectors], goal[place]] for place in range(len(goal))]
    reduced = _reduced(rows, width + 1)
    if any([pivot == width for pivot, _ in reduced]):
        return None
    divisor = _common_multiple([row[pivot] for pivot, row in reduced])
    factors = [0 for _ in vectors]
    for pivot, row in reduced:
        factors[pivot] = row[width] * (divisor // row[pivot])
    lowest = primitive([*factors, divisor])
    return (lowest[:-1], lowest[-1])


def balance(matrix):
    """The vector by which each row gives the sum 0, without a common divisor."""
    reduced = _reduced(matrix, len(matrix))
    pivots = [pivot for pivot, _ in reduced]
    free = [column for column in range(len(matrix)) if column not in pivots][0]
    scale = _common_multiple([row[pivot] for pivot, row in reduced])
    vector = [0 for _ in matrix]
    vector[free] = scale
    for pivot, row in reduced:
        vector[pivot] = -row[free] * (scale // row[pivot])
    # A row has no numbers but those at its pivot and at the free place, and they have no common
    # divisor, so no divisor of the scale divides the whole vector.
    if [number for number in vector if number != 0][0] < 0:
        return [-number for number in vector]
    return vector


def _reduced(vectors, width):
    """Pairs of a pivot and a row. The rows span what the vectors span and have no common divisors;
    the pivot is the place of the first number of the row that is not 0, where all other rows have 0."""
    reduced = []
    rest = [list(vector) for vector in vectors]
    for column in range(width):
        chosen = [index for index, row in enumerate(rest) if row[column] != 0]
        if not chosen:
            continue
        pivot_row = primitive(rest.pop(chosen[0]))
        rest = [cleared(row, pivot_row, column) for row in rest]
        reduced = [(pivot, cleared(row, pivot_row, column)) for pivot, row in reduced]
        reduced.append((column, pivot_row))
    return reduced


def cleared(row, pivot_row, column):
    """A multiple of the row less a multiple of the pivot's row, which has 0 at the pivot."""
    if row[column] == 0:
        return row
    own, factor = pivot_row[column], row[column]
    return primitive([own * number - factor * other for number, other in zip(row, pivot_row)])


def primitive(vector):
    """The vector divided by its greatest common divisor."""
    divisor = 0
    for number in vector:
        divisor = gcd(divisor, number)
    return [number // max(1, divisor) for number in vector]


def _common_multiple(numbers):
    multiple = 1
    for number in numbers:
        multiple = lcm(multiple, number)
    return multiple
