"""Sessions, which need tools in the beats after their start and bring two worths."""

from playhall.houseerrors import InvalidSession
from playhall.names import is_name


class Session:
    """A session with a name, needs `(beat, tool, amount)` and a first and a second worth."""

    def __init__(self, name, needs, *, first=0, second=0):
        if not is_name(name) or len(needs) == 0 or not all([_is_valid(need) for need in needs]):
            raise InvalidSession()
        self.name = name
        self.first = first
        self.second = second
        self.needs = _merged(needs)

    @property
    def duration(self):
        """The length: the last beat plus one."""
        return self.needs[-1][0] + 1

    @property
    def pair(self):
        """Both worths."""
        return (self.first, self.second)

    def __lshift__(self, other):
        needs = [(beat + other, tool, amount) for beat, tool, amount in self.needs]
        return Session(self.name, needs, first=self.first, second=self.second)

    def __or__(self, other):
        needs = [*self.needs, *other.needs]
        return Session(self.name, needs, first=self.first + other.first, second=self.second + other.second)

    def __invert__(self):
        needs = [(self.duration - 1 - beat, tool, amount) for beat, tool, amount in self.needs]
        return Session(self.name, needs, first=self.first, second=self.second)

    def __eq__(self, other):
        return (isinstance(other, Session) and self.name == other.name and self.needs == other.needs
                and self.first == other.first and self.second == other.second)


def _is_valid(need):
    """Whether a need is valid as it is passed."""
    beat, tool, amount = need
    return beat >= 0 and is_name(tool) and amount >= 1


def _merged(needs):
    """One need for each beat and tool, in ascending order."""
    rows = sorted([tuple(need) for need in needs])
    # Where a beat and a tool come first; their other needs follow.
    firsts = [at for at, row in enumerate(rows) if at == 0 or row[:2] != rows[at - 1][:2]]
    return tuple([(*rows[first][:2], sum([amount for _, _, amount in rows[first:behind]]))
                  for first, behind in zip(firsts, [*firsts[1:], len(rows)])])
