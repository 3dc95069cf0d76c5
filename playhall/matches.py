"""Matches, which are games of two players, and the seasons of halls of matches."""

from playhall.errors import BadHall
from playhall.positions import end_of, goals_at, legal
from playhall.seasons import Season


def match_points(game, position, stake):
    """The points of the first player."""
    held = goals_at(game, position)
    first, second = game.players
    if (first in held) == (second in held):
        return stake // 2
    return stake if first in held else 0


def season_of(hall, *, stake=2):
    """A season with one meeting for each table; raises BadHall."""
    pairs = [hall[name].players for name in hall]
    for index, players in enumerate(pairs):
        if len(players) != 2:
            raise BadHall("tables", index)
    return Season(hall.game.players, pairs, stake=stake)


def enter_results(season, hall, play):
    """Enters the points of the matches that have ended behind the play, and returns their meetings; raises BadPlay."""
    position = end_of(hall.game, play)
    moves = legal(hall.game, position)
    left = season.left
    results = []
    for meeting, name in enumerate(hall):
        ended = not any([move.startswith(f"{name}.") for move in moves])
        if meeting in left and ended:
            results.append((meeting, match_points(hall[name], hall.table_position(position, name), season.stake)))
    for meeting, points in results:
        season.enter(meeting, points)
    return [meeting for meeting, _ in results]


def met_pairs(season):
    """All pairs of players, by their indexes, that have met in an entered meeting."""
    places = {player: place for place, player in enumerate(season.players)}
    met = [[places[player] for player in season.meetings[meeting]] for meeting, _ in season.entered]
    return sorted(set([(min(pair), max(pair)) for pair in met]))
