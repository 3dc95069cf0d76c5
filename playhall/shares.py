"""Shares of a purse, by what teams are worth."""

from math import factorial

from playhall.errors import BadWorths
from playhall.linear import primitive
from playhall.tasks import solve

_MOST_PLAYERS = 5


def steady_share(worths):
    """A steady share, or None; raises BadWorths."""
    _, shares, whole = _decided(worths)
    if sum(shares) > worths[-1] * whole:
        return None
    return _lowest_share(shares, whole)


def balanced_teams(worths):
    """Balanced teams that are worth more than all players together, or None if there is a steady
    share; raises BadWorths."""
    weights, shares, whole = _decided(worths)
    if sum(shares) == worths[-1] * whole:
        return None
    # A player whose teams weigh less than the others' makes it up as a team of its own.
    for player in range(_count_of(worths)):
        missing = whole - sum([weight for team, weight in enumerate(weights) if team >> player & 1])
        weights[1 << player] += missing
    lowest = primitive([*weights, whole])
    return ([(team, weight) for team, weight in enumerate(lowest[:-1]) if weight > 0], lowest[-1])


def least_purse(worths):
    """The least sum of which each team can get its worth, as a pair; raises BadWorths."""
    _, shares, whole = _decided(worths)
    lowest = primitive([sum(shares), whole])
    return (lowest[0], lowest[1])


def mean_share(worths):
    """The mean share; raises BadWorths."""
    _check_worths(worths)
    count = _count_of(worths)
    shares = []
    for player in range(count):
        gains = [_orders(team, count) * (worths[team + (1 << player)] - worths[team])
                 for team in range(len(worths)) if not team >> player & 1]
        shares.append(sum(gains))
    return _lowest_share(shares, factorial(count))


def _orders(team, count):
    """In how many orders just the players of the team come before a player who is not in it."""
    size = len([player for player in range(count) if team >> player & 1])
    return factorial(size) * factorial(count - 1 - size)


def _decided(worths):
    """Weights of all teams, shares of the players, and what both are multiplied by. By the shares each
    team gets its worth, and their sum is the least such sum. The teams of each player weigh at most
    1 together, and the weights multiplied by the worths sum up to the same."""
    _check_worths(worths)
    rows = [[team >> player & 1 for team in range(1, len(worths))] for player in range(_count_of(worths))]
    numbers, tolls, whole = solve(rows, [1 for _ in rows], list(worths[1:]))
    return [0, *numbers], tolls, whole


def _check_worths(worths):
    if len(worths) not in [1 << count for count in range(1, _MOST_PLAYERS + 1)]:
        raise BadWorths(len(worths))
    for index, worth in enumerate(worths):
        if worth < 0 or (index == 0 and worth > 0):
            raise BadWorths(index)


def _count_of(worths):
    """The number of the players."""
    return len(worths).bit_length() - 1


def _lowest_share(shares, whole):
    lowest = primitive([*shares, whole])
    return (lowest[:-1], lowest[-1])
