"""Who can still be first in a season."""

from playhall.errors import NoPlayer
from playhall.flows import greatest_flow

# The nodes of a net: these two, then the meetings, then the players.
_SOURCE = 0
_SINK = 1
_FIRST_MEETING = 2


def most_points(season, player):
    """The points that a player has if it wins all that is left; raises NoPlayer."""
    if player not in season.players:
        raise NoPlayer(player)
    own = [meeting for meeting in season.left if player in season.meetings[meeting]]
    return season.points[player] + season.stake * len(own)


def completion(season, player):
    """Points for each meeting that is left, after which nobody has more than the player, or None; raises NoPlayer."""
    return _decided(season, player)[0]


def overfull_team(season, player):
    """An overfull team, or None; raises NoPlayer."""
    return _decided(season, player)[1]


def _decided(season, player):
    """A completion and None, or None and an overfull team."""
    most = most_points(season, player)
    points = season.points
    above = [other for other in season.players if points[other] > most]
    if above:
        return (None, above[:1])
    # The player wins its own meetings; the points of the other ones flow to the players, who have
    # room up to the most points of the player.
    meetings = [meeting for meeting in season.left if player not in season.meetings[meeting]]
    others = [other for other in season.players if other != player]
    nodes = {other: _FIRST_MEETING + len(meetings) + place for place, other in enumerate(others)}
    arcs = [arc for place, meeting in enumerate(meetings)
            for arc in _arcs_of(_FIRST_MEETING + place, season.meetings[meeting], nodes, season.stake)]
    arcs.extend([(nodes[other], _SINK, most - points[other]) for other in others])
    amounts, dam = greatest_flow(_FIRST_MEETING + len(meetings) + len(others), arcs, _SOURCE, _SINK)
    if any([amount < season.stake for amount in amounts[:3 * len(meetings):3]]):
        return (None, [other for other in others if nodes[other] in dam])
    return (_completed(season, player, dict(zip(meetings, amounts[1::3]))), None)


def _arcs_of(node, pair, nodes, stake):
    """The arc from the source to a meeting, and those from it to its players."""
    return [(_SOURCE, node, stake), (node, nodes[pair[0]], stake), (node, nodes[pair[1]], stake)]


def _completed(season, player, first_points):
    """All meetings that are left, with the points of their first players."""
    own = {meeting: season.stake if season.meetings[meeting][0] == player else 0 for meeting in season.left}
    return [(meeting, first_points.get(meeting, own[meeting])) for meeting in season.left]
