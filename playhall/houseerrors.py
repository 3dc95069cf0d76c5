"""The errors of the calendar: sessions, houses, schedules, regions and wishes."""

from playhall.errors import HallError


class HouseError(HallError):
    """The base class of the errors of the calendar."""


class InvalidLine(HouseError):
    """A word of a session's line is invalid or missing."""

    def __init__(self, word):
        super().__init__(f"word {word} is invalid")
        self.word = word


class InvalidSession(HouseError):
    """The name or a need of a session is invalid, or it has no need."""


class InvalidHouse(HouseError):
    """A tool's name or number is invalid."""


class EmptyRegion(HouseError):
    """A region is made of no mix."""


class UnknownTool(HouseError):
    """The house has no tool with this name."""

    def __init__(self, tool):
        super().__init__(f"there is no tool {tool}")
        self.tool = tool


class NoSession(HouseError):
    """The menu has no session with this index."""

    def __init__(self, index):
        super().__init__(f"there is no session {index}")
        self.index = index


class NotEnough(HouseError):
    """There is not enough of a tool for a session that is to be started."""

    def __init__(self, beat, tool):
        super().__init__(f"there is not enough of {tool} in beat {beat}")
        self.beat = beat
        self.tool = tool


class InvalidSchedule(HouseError):
    """A window of a schedule is invalid, or a ring is empty."""

    def __init__(self, beat):
        super().__init__(f"window {beat} is invalid")
        self.beat = beat


class InvalidMix(HouseError):
    """A mix has fewer than 1 beats."""

    def __init__(self, mix):
        super().__init__(f"{mix} is no mix")
        self.mix = mix


class Barred(HouseError):
    """An edge of a region bars the mix."""

    def __init__(self, edge):
        super().__init__(f"the edge {edge} bars the mix")
        self.edge = edge


class Beaten(HouseError):
    """A ring beats the bound."""

    def __init__(self, ring):
        super().__init__(f"the ring {ring} beats the bound")
        self.ring = ring
