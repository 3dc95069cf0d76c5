"""Linear tasks: greatest sums under limits."""

from playhall.errors import Endless
from playhall.linear import primitive


class Board:
    """The state of a task, all of whose numbers are to be divided by `whole`.

    Quantities are numbered: first the numbers that are asked for, then what each row has left up
    to its limit. The quantities in `free` are 0 and have a column each; those in `held` have a row
    each, with their worths in the last column. The last row tells what the sum loses when a free
    quantity grows."""

    def __init__(self, cells, whole, held, free):
        self.cells = cells
        self.whole = whole
        self.held = held
        self.free = free


def solve(rows, limits, aims):
    """The numbers and tolls of a greatest solution, all multiplied by whole, and whole; raises Endless."""
    count = len(aims)
    cells = [[*row, limit] for row, limit in zip(rows, limits)]
    cells.append([*[-aim for aim in aims], 0])
    board = Board(cells, 1, list(range(count, count + len(limits))), list(range(count)))
    stalled = False
    while any([loss < 0 for loss in board.cells[-1][:-1]]):
        column = _entering(board, stalled)
        row = _leaving(board, column)
        if row is None:
            raise Endless(_ray(board, column, count))
        stalled = board.cells[row][-1] == 0
        board = _exchanged(board, row, column)
    return _solution(board, count)


def _entering(board, stalled):
    """The column of a free quantity whose growth lets the sum grow."""
    losses = board.cells[-1]
    gaining = [column for column in range(len(board.free)) if losses[column] < 0]
    # By Bland's rule no state returns while the sum stays as it is.
    if stalled:
        return min(gaining, key=lambda column: board.free[column])
    return min(gaining, key=lambda column: losses[column])


def _leaving(board, column):
    """The row of the held quantity that first comes down to 0 when the free one grows, or None; of
    several ones that of the least quantity."""
    best = None
    for row, quantity in enumerate(board.held):
        rate, worth = board.cells[row][column], board.cells[row][-1]
        if rate > 0:
            found = (worth, rate, quantity, row)
            best = found if best is None or _is_sooner(found, best) else best
    return None if best is None else best[3]


def _is_sooner(one, other):
    first, second = one[0] * other[1], other[0] * one[1]
    return first < second or (first == second and one[2] < other[2])


def _exchanged(board, row, column):
    """The state in which the held quantity of the row is free, and the free one of the column is held."""
    pivot_row = board.cells[row]
    pivot = pivot_row[column]
    cells = []
    for cell_row in board.cells:
        rate = cell_row[column]
        # These divisions leave no rest: all numbers are determinants of the task's numbers.
        changed = [(number * pivot - rate * other) // board.whole for number, other in zip(cell_row, pivot_row)]
        changed[column] = -rate
        cells.append(changed)
    cells[row] = [board.whole if at == column else number for at, number in enumerate(pivot_row)]
    held = [board.free[column] if at == row else quantity for at, quantity in enumerate(board.held)]
    free = [board.held[row] if at == column else quantity for at, quantity in enumerate(board.free)]
    return Board(cells, pivot, held, free)


def _ray(board, column, count):
    """The numbers that grow without end together with the free quantity of the column."""
    rates = {board.free[column]: board.whole}
    for row, quantity in enumerate(board.held):
        rates[quantity] = -board.cells[row][column]
    return tuple(primitive([rates.get(quantity, 0) for quantity in range(count)]))


def _solution(board, count):
    """The tuple of the numbers, the tolls and what all of them are multiplied by."""
    worths = {quantity: board.cells[row][-1] for row, quantity in enumerate(board.held)}
    losses = {quantity: board.cells[-1][column] for column, quantity in enumerate(board.free)}
    lowest = primitive([
        *[worths.get(quantity, 0) for quantity in range(count)],
        *[losses.get(quantity, 0) for quantity in range(count, count + len(board.held))],
        board.whole])
    return (lowest[:count], lowest[count:-1], lowest[-1])
