"""What several tests need: a check of errors, sample games, and plain enumerations to compare with."""

import random
import unittest
from fractions import Fraction
from math import prod

from playhall.boxes import Box
from playhall.games import Game
from playhall.gametext import read_game
from playhall.moves import Move
from playhall.rules import Rule
from playhall.scorings import Scoring


class Checks(unittest.TestCase):
    def refused(self, error, fields, call, *args, **named):
        """Checks that the call raises exactly this error with these attributes, and returns it."""
        with self.assertRaises(error) as caught:
            call(*args, **named)
        self.assertIs(caught.exception.__class__, error)
        self.assertEqual(vars(caught.exception), fields)
        return caught.exception


NIM = read_game("\n".join([
    "players ann bob",
    "counter stones 5 5",
    "counter turn 1 0",
    "move aone ann if turn=0 do stones-1 turn+1",
    "move atwo ann if turn=0 do stones-2 turn+1",
    "move bone bob if turn=1 do stones-1 turn-1",
    "move btwo bob if turn=1 do stones-2 turn-1",
    "goal alost if stones=0 turn=0",
    "goal blost if stones=0 turn=1",
]))

# Three counters, moves that share some of them, and moves that touch none.
WIDE = Game(
    ["p"],
    [("x", 9, 5), ("y", 9, 5), ("z", 9, 5)],
    [
        Move("xup", "p", [], [("x", 1)]),
        Move("ydown", "p", [], [("y", -1)]),
        Move("both", "p", [("x", 1, None)], [("y", 1)]),
        Move("zzz", "p", [("z", 0, 9)], []),
        Move("nod", "p", [], []),
        Move("wave", "p", [], []),
    ],
)


def random_game(rng, *, counters=2, top=2, moves=4, players=("ann", "bob"), goals=2):
    """A small game, always the same one for the same state of `rng`."""
    labels = ["c", "b", "a", "d"][:counters]
    parts = [(label, rng.randint(1, top), 0) for label in labels]
    parts = [(label, high, rng.randint(0, high)) for label, high, _ in parts]

    def needs():
        chosen = [label for label in labels if rng.random() < 0.4]
        return [(label, rng.choice([0, 1, None]), rng.choice([1, 2])) for label in chosen]

    def changes():
        chosen = [label for label in labels if rng.random() < 0.6]
        return [(label, rng.choice([-2, -1, 1, 1])) for label in chosen]

    names = ["m", "k", "n", "j", "o", "i"][:moves]
    made = [
        Move(name, rng.choice(players), needs(), changes(),
             sign=rng.choice([None, "s", "t"]), foul=rng.random() < 0.2)
        for name in names
    ]
    ends = [(label, needs()) for label in ["g", "f", "h"][:goals]]
    return Game(list(players), parts, made, ends)


def random_games(seed, count, **kinds):
    rng = random.Random(seed)
    return [random_game(rng, **kinds) for _ in range(count)]


def step(game, position, name):
    """The position behind a move by the words of point 8, or None."""
    move = game.move(name)
    values = dict(zip(game.counters, position))
    for counter, low, high in move.needs:
        if low is not None and values[counter] < low:
            return None
        if high is not None and values[counter] > high:
            return None
    for counter, amount in move.changes:
        values[counter] += amount
    result = tuple(values[counter] for counter in game.counters)
    if all(0 <= value <= top for value, top in zip(result, game.tops)):
        return result
    return None


def end(game, position, play):
    """The position behind a play, or None if it is not legal."""
    for name in play:
        if position is not None:
            position = step(game, position, name)
    return position


def all_plays(game, position, length):
    """All legal plays up to a length with the positions behind them, shorter ones first, then by the moves."""
    plays = [((), position)]
    level = plays
    for _ in range(length):
        level = [
            (play + (move.name,), step(game, place, move.name))
            for play, place in level for move in game.moves
            if step(game, place, move.name) is not None
        ]
        plays = plays + level
    return plays


def random_scoring(rng, moves, *, tallies=2):
    """A small scoring with rules for some of the moves."""
    names = ["t", "s", "r"][:tallies]

    def form():
        return [(rng.choice([-1, 1, 2]), rng.choice([None, *names])) for _ in range(rng.randint(0, 3))]

    rules = [(move, name, form()) for move in moves for name in names if rng.random() < 0.4]
    return Scoring([(name, rng.randint(-1, 2)) for name in names], rules, form())


def fraction_rank(vectors):
    """The rank of the vectors, by plain elimination over fractions."""
    rows = [[Fraction(number) for number in vector] for vector in vectors]
    rank = 0
    for column in range(len(rows[0]) if rows else 0):
        found = [at for at in range(rank, len(rows)) if rows[at][column] != 0]
        if found:
            rows[rank], rows[found[0]] = rows[found[0]], rows[rank]
            for at in range(rank + 1, len(rows)):
                factor = rows[at][column] / rows[rank][column]
                rows[at] = [own - factor * other for own, other in zip(rows[at], rows[rank])]
            rank += 1
    return rank


def is_sum(vectors, vector):
    """Whether the vector is a sum of multiples of the vectors."""
    return fraction_rank([*vectors, vector]) == fraction_rank(vectors)


def shown(game, play):
    """The list of the signs of a play."""
    return [game.move(name).sign for name in play if game.move(name).sign is not None]


def has_foul(game, play):
    return any(game.move(name).foul for name in play)


def pair_steps(game, first, second):
    """By the words of point 32: the pairs of positions behind a pair, each with whether the first play
    makes a move and whether that is a foul. The second play makes no foul."""
    found = []
    for move in game.moves:
        behind = step(game, first, move.name)
        if behind is not None and move.sign is None:
            found.append(((behind, second), True, move.foul))
        if behind is not None and move.sign is not None:
            for other in game.moves:
                answer = step(game, second, other.name)
                if answer is not None and other.sign == move.sign and not other.foul:
                    found.append(((behind, answer), True, move.foul))
        still = step(game, second, move.name)
        if still is not None and move.sign is None and not move.foul:
            found.append(((first, still), False, False))
    return found


def spread(starts, steps):
    """All that steps lead to from the starts, where `steps` gives a list for each of them."""
    found = set(starts)
    waiting = list(found)
    while waiting:
        for behind in steps(waiting.pop()):
            if behind not in found:
                found.add(behind)
                waiting.append(behind)
    return found


def doubtful(game):
    """The doubtful pairs, as pairs of positions."""
    def steps(state):
        return [(pair, state[1] or foul) for pair, _, foul in pair_steps(game, *state[0])]

    return {pair for pair, foul in spread([((game.start, game.start), False)], steps) if foul}


def plain_table(game):
    """For each doubtful pair the greatest number of moves of the first play on a way from it, or None."""
    pairs = doubtful(game)
    steps = {pair: pair_steps(game, *pair) for pair in pairs}
    most = {pair: 0 for pair in pairs}
    changed = True
    while changed:
        later = {pair: max([0] + [most[behind] + made for behind, made, _ in steps[pair]]) for pair in pairs}
        changed = later != most
        most = later
        # Ways with more moves than there are pairs go in a circle.
        if max(most.values(), default=0) > len(pairs):
            return None
    return most


def plain_lag(game):
    table = plain_table(game)
    if table is None:
        return None
    return 1 + max(table.values()) if table else 0


def plain_ranks(arena, team, targets):
    """The ranks by the words of point 24: in each round the positions that get their rank."""
    ranks = {number: 0 for number in targets}
    rank = 0
    while True:
        rank += 1
        new = []
        for number, row in enumerate(arena.ways):
            own = [to for name, to in row if arena.game.move(name).player in team]
            other = [to for name, to in row if arena.game.move(name).player not in team]
            forced = all(to in ranks for to in other) and (not own or any(to in ranks for to in own))
            if number not in ranks and row and forced:
                new.append(number)
        if not new:
            return ranks
        ranks.update({number: rank for number in new})


def random_rule(rng, *, parties=2, hands=3, outcomes=3, top=3):
    """A small rule; worths are from 0 to `top`."""
    sizes = [rng.randint(1, hands) for _ in range(parties)]
    worths = [[[rng.randint(0, top) for _ in range(outcomes)] for _ in range(size)] for size in sizes]
    return Rule(worths, [rng.randrange(outcomes) for _ in range(prod(sizes))])


def random_box(rng, rule):
    """A box inside the full box that is not empty."""
    return Box([rng.sample(range(size), rng.randint(1, size)) for size in rule.sizes])


def constant(rule, box):
    return len({rule(combination) for combination in box}) == 1


def random_form(rng, rule, box, depth=4):
    """The form of a tree that fits the rule behind a path with this box."""
    parties = [party for party, side in enumerate(box.sides) if len(side) > 1]
    if depth == 0 or not parties or rng.random() < 0.15:
        return ("end", rule(rng.choice(list(box))))
    party = rng.choice(parties)
    side = rng.sample(box[party], len(box[party]))
    cuts = sorted(rng.sample(range(1, len(side)), rng.randint(1, min(3, len(side) - 1))))
    cells = [side[low:high] for low, high in zip([0, *cuts], [*cuts, len(side)])]
    return ("ask", party, [(cell, random_form(rng, rule, box.with_side(party, cell), depth - 1)) for cell in cells])


def right_form(rng, rule, box):
    """The form of a tree that carries out the rule in this box."""
    if constant(rule, box):
        return ("end", rule(next(iter(box))))
    party = rng.choice([party for party, side in enumerate(box.sides) if len(side) > 1])
    cut = rng.randint(1, len(box[party]) - 1)
    cells = [box[party][:cut], box[party][cut:]]
    rng.shuffle(cells)
    return ("ask", party, tuple((cell, right_form(rng, rule, box.with_side(party, cell))) for cell in cells))


def chain_form(length):
    """The form of a tree with as many questions on its longest path; party 0 has one hand more."""
    form = ("end", length)
    for hand in reversed(range(length)):
        form = ("ask", 0, (((hand,), ("end", hand)), (tuple(range(hand + 1, length + 1)), form)))
    return form
