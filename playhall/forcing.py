"""What a team can force in an arena."""

from playhall.arenas import LIMIT, Arena
from playhall.errors import NoCounter, NoPlayer
from playhall.positions import holds


def targets_of(arena, goal):
    """The numbers of the positions in which the goal holds; raises NoGoal."""
    return [number for number, position in enumerate(arena.positions) if holds(arena.game, goal, position)]


def check_team(game, team):
    """Raises NoPlayer for the first entry of the team that is not a player."""
    for player in team:
        if player not in game.players:
            raise NoPlayer(player)


def forced_ranks(arena, team, targets):
    """The ranks of the positions that have one; raises NoPlayer."""
    check_team(arena.game, team)
    own_ways, other_ways = _split_ways(arena, team)
    sources = _sources(own_ways, other_ways)
    # How many legal moves of the opponents do not lead to a position with a rank.
    open_ways = [len(row) for row in other_ways]
    answered = [not row for row in own_ways]
    ranks = {number: 0 for number in sorted(set(targets))}
    order = list(ranks)
    at = 0
    # Positions are taken in ascending order of their ranks, so what completes a rank is its greatest part.
    while at < len(order):
        number = order[at]
        new = []
        for source, is_own in sources[number]:
            if is_own:
                answered[source] = True
            else:
                open_ways[source] -= 1
            if answered[source] and open_ways[source] == 0 and source not in ranks:
                ranks[source] = ranks[number] + 1
                new.append(source)
        order.extend(new)
        at += 1
    return ranks


def _split_ways(arena, team):
    """For each position the ways of the team and those of the opponents."""
    own = {move.name: move.player in team for move in arena.game.moves}
    rows = arena.ways
    own_ways = [[(name, to) for name, to in row if own[name]] for row in rows]
    other_ways = [[(name, to) for name, to in row if not own[name]] for row in rows]
    return own_ways, other_ways


def _sources(own_ways, other_ways):
    """For each position the ways to it: where each comes from, and whether the team makes it."""
    sources = [[] for _ in own_ways]
    for is_own, rows in ((True, own_ways), (False, other_ways)):
        for number, row in enumerate(rows):
            for _, to in row:
                sources[to].append((number, is_own))
    return sources


def answers(arena, team, targets):
    """For each position with a rank above 0 the best move of the team, if it has one; raises NoPlayer."""
    ranks = forced_ranks(arena, team, targets)
    own_ways, _ = _split_ways(arena, team)
    found = {}
    for number, rank in ranks.items():
        ranked = [(ranks[to], name) for name, to in own_ways[number] if to in ranks]
        if rank > 0 and ranked:
            found[number] = min(ranked, key=lambda pair: pair[0])[1]
    return found


def trap(arena, team, targets):
    """The numbers of the positions without a rank; raises NoPlayer."""
    ranks = forced_ranks(arena, team, targets)
    return [number for number in range(arena.size) if number not in ranks]


def least_start(game, counter, team, goal, *, limit=LIMIT):
    """The least start of the counter with which the team forces the goal, or None."""
    if counter not in game.places:
        raise NoCounter(counter)
    game.goal(goal)
    check_team(game, team)
    for value in range(game.tops[game.places[counter]] + 1):
        arena = Arena(game.started(counter, value), limit=limit)
        if 0 in forced_ranks(arena, team, targets_of(arena, goal)):
            return value
    return None
