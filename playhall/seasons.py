"""Seasons: meetings in which points are divided between players."""

from playhall.errors import BadPoints, BadSeason, Entered, NoMeeting, NothingEntered
from playhall.players import bad_player


class Season:
    """Players, and the meetings in which each two of them divide a stake."""

    def __init__(self, players, meetings, *, stake=2):
        _refuse_bad("players", bad_player(players))
        _refuse_bad("meetings", _bad_meeting(meetings, players))
        self.players = tuple(players)
        self.meetings = tuple([(first, second) for first, second in meetings])
        self.stake = stake
        self._results = ()

    @property
    def points(self):
        """The points of each player, in the order of the players."""
        wins = self.wins
        return dict([(player, sum(row)) for player, row in zip(self.players, wins)])

    @property
    def entered(self):
        """The meetings that are entered with the points of their first players, in the order of entering."""
        return list(self._results)

    @property
    def left(self):
        """The numbers of the meetings that are not entered."""
        entered = [meeting for meeting, _ in self._results]
        return [meeting for meeting in range(len(self.meetings)) if meeting not in entered]

    @property
    def ranking(self):
        """The players, most points first."""
        points = self.points
        return [self.players[place] for _, place in
                sorted([(-points[player], place) for place, player in enumerate(self.players)])]

    @property
    def wins(self):
        """For each player the points that it has got in meetings with each player."""
        gains = _gains(self.meetings, self.stake, self._results)
        return [[sum([got for pair, got in gains if pair == (player, other)]) for other in self.players]
                for player in self.players]

    def enter(self, meeting, points):
        """Divides the points of a meeting; raises NoMeeting, Entered, BadPoints."""
        if not 0 <= meeting < len(self.meetings):
            raise NoMeeting(meeting)
        if meeting not in self.left:
            raise Entered(meeting)
        if not 0 <= points <= self.stake:
            raise BadPoints(points)
        self._results = (*self._results, (meeting, points))

    def take_back(self):
        """Takes back what was entered last, and returns it; raises NothingEntered."""
        if not self._results:
            raise NothingEntered()
        last = self._results[-1]
        self._results = self._results[:-1]
        return last


def _refuse_bad(part, index):
    if index is not None:
        raise BadSeason(part, index)


def _bad_meeting(meetings, players):
    """The index of the first invalid meeting, or None."""
    for index, (first, second) in enumerate(meetings):
        if first == second or first not in players or second not in players:
            return index
    return None


def _gains(meetings, stake, results):
    """For each entered meeting both pairs of a player and the other one, with what the player got."""
    return ([(meetings[meeting], got) for meeting, got in results]
            + [((meetings[meeting][1], meetings[meeting][0]), stake - got) for meeting, got in results])
