"""Rules by which players choose one of several games."""

from playhall.arenas import Arena
from playhall.rules import Rule
from playhall.teamworths import forced_worth


def choice_rule(games, stocks, prizes, hands, table):
    """The rule by which the players choose one of the games; raises TooLarge, BadRule."""
    worths = [[[_worth(game.started(stock, value), player, prizes) for game in games] for value in values]
              for player, stock, values in zip(games[0].players, stocks, hands)]
    return Rule(worths, table)


def _worth(game, player, prizes):
    """What the player alone forces; raises TooLarge."""
    return forced_worth(Arena(game), [player], prizes)
