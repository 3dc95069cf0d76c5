"""Games and plays that become sessions."""

from playhall.errors import NotForced
from playhall.forcing import forced_ranks, targets_of
from playhall.orders import stages
from playhall.sessions import Session


def game_session(arena, team, goal, name, tools, *, first=1, second=0):
    """The session of a game; raises NoGoal, NoPlayer, NotForced, InvalidSession."""
    ranks = forced_ranks(arena, team, targets_of(arena, goal))
    if 0 not in ranks:
        raise NotForced()
    return Session(name, _needs(tools, ranks[0]), first=first, second=second)


def play_session(game, play, name, tools, *, first=1, second=0):
    """The session of a play; raises NoMove, InvalidSession."""
    return Session(name, _needs(tools, len(stages(game, play))), first=first, second=second)


def _needs(tools, beats):
    """The needs of the tools in each of the beats, or in beat 0 if there are none."""
    return [(beat, tool, 1) for beat in range(max(1, beats)) for tool in tools]
