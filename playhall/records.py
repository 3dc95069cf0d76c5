"""Records of games, in which moves are made, taken back and made again."""

from playhall.errors import BadEntry, HallError, NothingBack, NothingForth
from playhall.positions import after, before
from playhall.shifts import Shift


class Stand:
    """What a record holds at one moment. It is never changed: an entry gives the record a new one."""

    def __init__(self, place, runs, later, log):
        self.place = place
        self.runs = runs
        self.later = later
        self.log = log


class Record:
    """A record of a game: its position, the moves that are done, and those that are ahead."""

    def __init__(self, game):
        self.game = game
        self._stand = Stand(game.start, (), (), ())

    @property
    def position(self):
        """The position behind the moves that are done."""
        return self._stand.place

    @property
    def done(self):
        """The runs of the moves that are done."""
        return list(self._stand.runs)

    @property
    def ahead(self):
        """The runs of the moves that can be made again, the next one first."""
        return list(self._stand.later)

    @property
    def done_length(self):
        """How many moves are done."""
        return _length(self._stand.runs)

    @property
    def ahead_length(self):
        """How many moves are ahead."""
        return _length(self._stand.later)

    @property
    def entries(self):
        """All entries, in order."""
        return list(self._stand.log)

    @property
    def effect(self):
        """The shift of the moves that are done."""
        return Shift.sum_of([self.game.shift(name) * times for name, times in self._stand.runs])

    @property
    def moves_done(self):
        """The names of the moves that are done."""
        return [name for name, times in self._stand.runs for _ in range(times)]

    def __iter__(self):
        return iter(self._stand.runs)

    def play(self, name, times=1):
        """Makes a move several times and returns the position; raises NoMove, Blocked."""
        self._stand = _entered(self.game, self._stand, ("play", name, times))
        return self.position

    def back(self, count=1):
        """Takes moves back and returns the position; raises NothingBack."""
        self._stand = _entered(self.game, self._stand, ("back", count))
        return self.position

    def forth(self, count=1):
        """Makes moves again and returns the position; raises NothingForth."""
        self._stand = _entered(self.game, self._stand, ("forth", count))
        return self.position

    def take(self, entries):
        """Makes all of the entries, or none, and returns the position; raises BadEntry."""
        stand = self._stand
        for index, entry in enumerate(entries):
            try:
                stand = _entered(self.game, stand, entry)
            except HallError as refusal:
                raise BadEntry(index) from refusal
        self._stand = stand
        return self.position

    def plain(self):
        """A new record with one play entry for each run that is done."""
        return replayed(self.game, [("play", name, times) for name, times in self._stand.runs])


def replayed(game, entries):
    """A new record with these entries; raises BadEntry."""
    made = Record(game)
    made.take(entries)
    return made


def _entered(game, stand, entry):
    """The stand behind an entry."""
    if entry[0] == "play":
        runs, later = _joined(stand.runs, ((entry[1], entry[2]),)), ()
        place = after(game, stand.place, entry[1], times=entry[2])
    elif entry[0] == "back":
        runs, later, place = _taken_back(game, stand, entry[1])
    else:
        runs, later, place = _made_again(game, stand, entry[1])
    return Stand(place, runs, later, (*stand.log, tuple(entry)))


def _taken_back(game, stand, count):
    most = _length(stand.runs)
    if count > most:
        raise NothingBack(most)
    runs, taken = _parted(stand.runs, most - count)
    place = stand.place
    for name, times in taken[::-1]:
        place = before(game, place, name, times=times)
    return runs, _joined(taken, stand.later), place


def _made_again(game, stand, count):
    most = _length(stand.later)
    if count > most:
        raise NothingForth(most)
    made, later = _parted(stand.later, count)
    place = stand.place
    for name, times in made:
        place = after(game, place, name, times=times)
    return _joined(stand.runs, made), later, place


def _length(runs):
    return sum([times for _, times in runs])


def _joined(first, second):
    """The runs of both; where they touch, runs of the same name become one."""
    if first and second and first[-1][0] == second[0][0]:
        return (*first[:-1], (first[-1][0], first[-1][1] + second[0][1]), *second[1:])
    return (*first, *second)


def _parted(runs, count):
    """The runs of the first `count` moves, and those of the other moves."""
    at = 0
    left = count
    while at < len(runs) and runs[at][1] <= left:
        left -= runs[at][1]
        at += 1
    if left == 0:
        return runs[:at], runs[at:]
    name, times = runs[at]
    return (*runs[:at], (name, left)), ((name, times - left), *runs[at + 1:])


class Kept:
    """What a record was when a block was entered, and what was kept for the blocks around it."""

    def __init__(self, stand, outer):
        self.stand = stand
        self.outer = outer


class Attempt:
    """A block from which an error leaves the record as it was when the block was entered."""

    def __init__(self, record):
        self._held = record
        self._kept = None

    def __enter__(self):
        self._kept = Kept(self._held._stand, self._kept)
        return self._held

    def __exit__(self, kind, value, trace):
        if kind is not None:
            self._held._stand = self._kept.stand
        self._kept = self._kept.outer


def attempted(record, deed):
    """What `deed` returns for the record within a block of Attempt."""
    with Attempt(record) as held:
        return deed(held)
