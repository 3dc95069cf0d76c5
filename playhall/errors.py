"""The errors that the program raises."""


class HallError(ValueError):
    """The base class of all errors that the program raises."""


class BadMove(HallError):
    """A part of a move is invalid."""

    def __init__(self, part):
        super().__init__(f"invalid move: {part}")
        self.part = part


class BadGame(HallError):
    """An entry of a part of a game is invalid."""

    def __init__(self, part, index):
        super().__init__(f"invalid game: {part}, entry {index}")
        self.part = part
        self.index = index


class BadHall(HallError):
    """An entry of a part of a hall is invalid."""

    def __init__(self, part, index):
        super().__init__(f"invalid hall: {part}, entry {index}")
        self.part = part
        self.index = index


class BadScoring(HallError):
    """An entry of a part of a scoring is invalid."""

    def __init__(self, part, index):
        super().__init__(f"invalid scoring: {part}, entry {index}")
        self.part = part
        self.index = index


class BadSeason(HallError):
    """An entry of a part of a season is invalid."""

    def __init__(self, part, index):
        super().__init__(f"invalid season: {part}, entry {index}")
        self.part = part
        self.index = index


class BadWorths(HallError):
    """The worths of a purse are invalid."""

    def __init__(self, index):
        super().__init__(f"invalid worths: entry {index}")
        self.index = index


class BadLine(HallError):
    """A word of a text is invalid."""

    def __init__(self, line, word):
        super().__init__(f"line {line}, word {word} is invalid")
        self.line = line
        self.word = word


class NoMove(HallError):
    """There is no move with this name."""

    def __init__(self, name):
        super().__init__(f"there is no move {name}")
        self.name = name


class NoGoal(HallError):
    """There is no goal with this name."""

    def __init__(self, name):
        super().__init__(f"there is no goal {name}")
        self.name = name


class NoPlayer(HallError):
    """There is no player with this name."""

    def __init__(self, name):
        super().__init__(f"there is no player {name}")
        self.name = name


class NoCounter(HallError):
    """There is no counter with this name."""

    def __init__(self, name):
        super().__init__(f"there is no counter {name}")
        self.name = name


class NoTable(HallError):
    """There is no table with this name."""

    def __init__(self, name):
        super().__init__(f"there is no table {name}")
        self.name = name


class Blocked(HallError):
    """The value of a counter does not let a shift be made."""

    def __init__(self, counter):
        super().__init__(f"the counter {counter} does not let the shift be made")
        self.counter = counter


class BadPlay(HallError):
    """A move of a play is refused."""

    def __init__(self, index):
        super().__init__(f"move {index} of the play is refused")
        self.index = index


class BadEntry(HallError):
    """An entry of a record is refused."""

    def __init__(self, index):
        super().__init__(f"entry {index} is refused")
        self.index = index


class TooLarge(HallError):
    """There are more positions or pairs than the limit."""

    def __init__(self, limit):
        super().__init__(f"there are more than {limit}")
        self.limit = limit


class NotReached(HallError):
    """No play leads to the position."""

    def __init__(self, missing):
        super().__init__(f"no play leads to {missing}")
        self.missing = missing


class Clash(HallError):
    """A move of one play meets a move of another play."""

    def __init__(self, first, second):
        super().__init__(f"move {first} of the one meets move {second} of the other")
        self.first = first
        self.second = second


class NotForced(HallError):
    """The team does not force the goal."""


class Impossible(HallError):
    """No legal play has this sign next."""

    def __init__(self, sign):
        super().__init__(f"no legal play has the sign {sign} next")
        self.sign = sign


class Endless(HallError):
    """A task has no greatest sum."""

    def __init__(self, ray):
        super().__init__(f"there is no greatest sum along {ray}")
        self.ray = ray


class NothingBack(HallError):
    """Fewer moves can be taken back."""

    def __init__(self, most):
        super().__init__(f"at most {most} moves can be taken back")
        self.most = most


class NothingForth(HallError):
    """Fewer moves can be made again."""

    def __init__(self, most):
        super().__init__(f"at most {most} moves can be made again")
        self.most = most


class NoMeeting(HallError):
    """There is no meeting with this number."""

    def __init__(self, meeting):
        super().__init__(f"there is no meeting {meeting}")
        self.meeting = meeting


class Entered(HallError):
    """The meeting is entered already."""

    def __init__(self, meeting):
        super().__init__(f"the meeting {meeting} is entered already")
        self.meeting = meeting


class BadPoints(HallError):
    """The points are not from 0 to the stake."""

    def __init__(self, offered):
        super().__init__(f"{offered} points cannot be entered")
        self.offered = offered


class NothingEntered(HallError):
    """No meeting is entered that could be taken back."""
