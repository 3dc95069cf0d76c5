"""What teams can force to be worth in a game."""

from playhall.errors import NoCounter
from playhall.forcing import check_team, forced_ranks


def forced_worth(arena, team, prizes):
    """The worth that the team forces; raises NoPlayer, NoCounter."""
    check_team(arena.game, team)
    _check_prizes(arena.game, prizes)
    return _forced(arena, team, prizes)


def forced_worths(arena, prizes):
    """The worths that all teams force, by their numbers; raises NoCounter."""
    _check_prizes(arena.game, prizes)
    players = arena.game.players
    return [_forced(arena, [player for place, player in enumerate(players) if team >> place & 1], prizes)
            for team in range(1 << len(players))]


def _check_prizes(game, prizes):
    for counter in prizes:
        if counter not in game.places:
            raise NoCounter(counter)


def _forced(arena, team, prizes):
    places = [arena.game.places[counter] for player, counter in zip(arena.game.players, prizes) if player in team]
    sums = [sum([position[place] for place in places]) for position in arena.positions]
    heights = sorted(set(sums))
    # The start has some height, so the team forces the first one; what it forces are the first ones.
    low, high = 0, len(heights) - 1
    while low < high:
        middle = (low + high + 1) // 2
        targets = [number for number, worth in enumerate(sums) if worth >= heights[middle]]
        if 0 in forced_ranks(arena, team, targets):
            low = middle
        else:
            high = middle - 1
    return heights[low]
