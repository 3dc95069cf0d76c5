"""Shifts: what some moves need of counters, and how they change them."""

from playhall.errors import Blocked


class Shift:
    """Rows `(counter, low, high, amount)`, one for each counter that the shift touches."""

    def __init__(self, rows):
        self.rows = tuple(sorted([tuple(row) for row in rows]))

    @property
    def never(self):
        """Whether the shift can be made nowhere."""
        return any([low > high for _, low, high, _ in self.rows])

    def __add__(self, other):
        if not isinstance(other, Shift):
            return NotImplemented
        return Shift(_rows_in_turn(self.rows, other.rows))

    def __invert__(self):
        return Shift([(counter, low + amount, high + amount, -amount) for counter, low, high, amount in self.rows])

    def __mul__(self, other):
        if not isinstance(other, int):
            return NotImplemented
        if other == 0:
            return Shift([])
        return Shift([_repeated_row(row, other) for row in self.rows])

    def __eq__(self, other):
        return isinstance(other, Shift) and self.rows == other.rows

    @staticmethod
    def sum_of(shifts):
        """The shift that makes these shifts in order."""
        total = Shift([])
        for shift in shifts:
            total = total + shift
        return total

    def gap(self, values):
        """The counter of the first row whose value is not from low to high, or None."""
        for counter, low, high, _ in self.rows:
            if not low <= values[counter] <= high:
                return counter
        return None

    def applied(self, values):
        """The values after the shift; raises Blocked."""
        counter = self.gap(values)
        if counter is not None:
            raise Blocked(counter)
        changed = dict(values)
        for counter, _, _, amount in self.rows:
            changed[counter] = changed[counter] + amount
        return changed


def _rows_in_turn(first, second):
    """The rows of the shift that makes the first rows and then the second ones."""
    rows = {row[0]: row for row in first}
    later = {row[0]: row for row in second}
    alone = [later[counter] for counter in later if counter not in rows]
    joined = [_joined_row(rows[counter], later[counter]) if counter in later else rows[counter] for counter in rows]
    return joined + alone


def _joined_row(first, second):
    counter, low, high, amount = first
    _, later_low, later_high, later_amount = second
    return (counter, max(low, later_low - amount), min(high, later_high - amount), amount + later_amount)


def _repeated_row(row, times):
    counter, low, high, amount = row
    before_last = (times - 1) * amount
    return (counter, low - min(0, before_last), high - max(0, before_last), times * amount)
