"""Leagues of players who have won from each other, and their ratings."""

from playhall.components import components
from playhall.linear import balance


def leagues(wins):
    """The leagues in their order, each as the ascending list of its players."""
    numbers = components([[other for other, amount in enumerate(row) if amount > 0] for row in wins])
    left = {}
    for player, number in enumerate(numbers):
        left.setdefault(number, []).append(player)
    ordered = []
    while len(ordered) < len(left):
        waiting = [league for league in left.values() if league not in ordered]
        free = [league for league in waiting if not _is_beaten(wins, league, waiting)]
        # The leagues are listed by their least players.
        ordered.append(free[0])
    return ordered


def _is_beaten(wins, league, waiting):
    """Whether somebody in another waiting league has won something from the league."""
    return any([wins[player][loser] > 0
                for other in waiting if other != league for player in other for loser in league])


def ratings(wins):
    """The leagues in their order, with pairs of a player and its rating."""
    return [list(zip(league, _league_ratings(wins, league))) for league in leagues(wins)]


def _league_ratings(wins, league):
    # What a player has won from itself stands on both sides of its sums.
    losses = {player: sum([wins[other][player] for other in league]) for player in league}
    return balance([[wins[player][other] - (losses[player] if other == player else 0) for other in league]
                    for player in league])
