"""What several tests need: a check of errors, sample games, and plain enumerations to compare with."""

import random
import unittest
from fractions import Fraction
from itertools import product
from math import prod

from playhall.boxes import Box
from playhall.games import Game
from playhall.gametext import read_game
from playhall.houses import House
from playhall.moves import Move
from playhall.rules import Rule
from playhall.scorings import Scoring
from playhall.sessions import Session


class Checks(unittest.TestCase):
    def refused(self, error, fields, call, *args, **named):
        """Checks that the call raises exactly this error with these attributes, and returns it."""
        with self.assertRaises(error) as caught:
            call(*args, **named)
        self.assertIs(caught.exception.__class__, error)
        self.assertEqual(vars(caught.exception), fields)
        return caught.exception


NIM = read_game("\n".join([
    "players ann bob",
    "counter stones 5 5",
    "counter turn 1 0",
    "move aone ann if turn=0 do stones-1 turn+1",
    "move atwo ann if turn=0 do stones-2 turn+1",
    "move bone bob if turn=1 do stones-1 turn-1",
    "move btwo bob if turn=1 do stones-2 turn-1",
    "goal alost if stones=0 turn=0",
    "goal blost if stones=0 turn=1",
]))

# Three counters, moves that share some of them, and moves that touch none.
WIDE = Game(
    ["p"],
    [("x", 9, 5), ("y", 9, 5), ("z", 9, 5)],
    [
        Move("xup", "p", [], [("x", 1)]),
        Move("ydown", "p", [], [("y", -1)]),
        Move("both", "p", [("x", 1, None)], [("y", 1)]),
        Move("zzz", "p", [("z", 0, 9)], []),
        Move("nod", "p", [], []),
        Move("wave", "p", [], []),
    ],
)


def random_game(rng, *, counters=2, top=2, moves=4, players=("ann", "bob"), goals=2):
    """A small game, always the same one for the same state of `rng`."""
    labels = ["c", "b", "a", "d"][:counters]
    parts = [(label, rng.randint(1, top), 0) for label in labels]
    parts = [(label, high, rng.randint(0, high)) for label, high, _ in parts]

    def needs():
        chosen = [label for label in labels if rng.random() < 0.4]
        return [(label, rng.choice([0, 1, None]), rng.choice([1, 2])) for label in chosen]

    def changes():
        chosen = [label for label in labels if rng.random() < 0.6]
        return [(label, rng.choice([-2, -1, 1, 1])) for label in chosen]

    names = ["m", "k", "n", "j", "o", "i"][:moves]
    made = [
        Move(name, rng.choice(players), needs(), changes(),
             sign=rng.choice([None, "s", "t"]), foul=rng.random() < 0.2)
        for name in names
    ]
    ends = [(label, needs()) for label in ["g", "f", "h"][:goals]]
    return Game(list(players), parts, made, ends)


def random_games(seed, count, **kinds):
    rng = random.Random(seed)
    return [random_game(rng, **kinds) for _ in range(count)]


def step(game, position, name):
    """The position behind a move by the words of point 8, or None."""
    move = game.move(name)
    values = dict(zip(game.counters, position))
    for counter, low, high in move.needs:
        if low is not None and values[counter] < low:
            return None
        if high is not None and values[counter] > high:
            return None
    for counter, amount in move.changes:
        values[counter] += amount
    result = tuple(values[counter] for counter in game.counters)
    if all(0 <= value <= top for value, top in zip(result, game.tops)):
        return result
    return None


def end(game, position, play):
    """The position behind a play, or None if it is not legal."""
    for name in play:
        if position is not None:
            position = step(game, position, name)
    return position


def all_plays(game, position, length):
    """All legal plays up to a length with the positions behind them, shorter ones first, then by the moves."""
    plays = [((), position)]
    level = plays
    for _ in range(length):
        level = [
            (play + (move.name,), step(game, place, move.name))
            for play, place in level for move in game.moves
            if step(game, place, move.name) is not None
        ]
        plays = plays + level
    return plays


def random_scoring(rng, moves, *, tallies=2):
    """A small scoring with rules for some of the moves."""
    names = ["t", "s", "r"][:tallies]

    def form():
        return [(rng.choice([-1, 1, 2]), rng.choice([None, *names])) for _ in range(rng.randint(0, 3))]

    rules = [(move, name, form()) for move in moves for name in names if rng.random() < 0.4]
    return Scoring([(name, rng.randint(-1, 2)) for name in names], rules, form())


def fraction_rank(vectors):
    """The rank of the vectors, by plain elimination over fractions."""
    rows = [[Fraction(number) for number in vector] for vector in vectors]
    rank = 0
    for column in range(len(rows[0]) if rows else 0):
        found = [at for at in range(rank, len(rows)) if rows[at][column] != 0]
        if found:
            rows[rank], rows[found[0]] = rows[found[0]], rows[rank]
            for at in range(rank + 1, len(rows)):
                factor = rows[at][column] / rows[rank][column]
                rows[at] = [own - factor * other for own, other in zip(rows[at], rows[rank])]
            rank += 1
    return rank


def is_sum(vectors, vector):
    """Whether the vector is a sum of multiples of the vectors."""
    return fraction_rank([*vectors, vector]) == fraction_rank(vectors)


def shown(game, play):
    """The list of the signs of a play."""
    return [game.move(name).sign for name in play if game.move(name).sign is not None]


def has_foul(game, play):
    return any(game.move(name).foul for name in play)


def pair_steps(game, first, second):
    """By the words of point 32: the pairs of positions behind a pair, each with whether the first play
    makes a move and whether that is a foul. The second play makes no foul."""
    found = []
    for move in game.moves:
        behind = step(game, first, move.name)
        if behind is not None and move.sign is None:
            found.append(((behind, second), True, move.foul))
        if behind is not None and move.sign is not None:
            for other in game.moves:
                answer = step(game, second, other.name)
                if answer is not None and other.sign == move.sign and not other.foul:
                    found.append(((behind, answer), True, move.foul))
        still = step(game, second, move.name)
        if still is not None and move.sign is None and not move.foul:
            found.append(((first, still), False, False))
    return found


def spread(starts, steps):
    """All that steps lead to from the starts, where `steps` gives a list for each of them."""
    found = set(starts)
    waiting = list(found)
    while waiting:
        for behind in steps(waiting.pop()):
            if behind not in found:
                found.add(behind)
                waiting.append(behind)
    return found


def doubtful(game):
    """The doubtful pairs, as pairs of positions."""
    def steps(state):
        return [(pair, state[1] or foul) for pair, _, foul in pair_steps(game, *state[0])]

    return {pair for pair, foul in spread([((game.start, game.start), False)], steps) if foul}


def plain_table(game):
    """For each doubtful pair the greatest number of moves of the first play on a way from it, or None."""
    pairs = doubtful(game)
    steps = {pair: pair_steps(game, *pair) for pair in pairs}
    most = {pair: 0 for pair in pairs}
    changed = True
    while changed:
        later = {pair: max([0] + [most[behind] + made for behind, made, _ in steps[pair]]) for pair in pairs}
        changed = later != most
        most = later
        # Ways with more moves than there are pairs go in a circle.
        if max(most.values(), default=0) > len(pairs):
            return None
    return most


def plain_lag(game):
    table = plain_table(game)
    if table is None:
        return None
    return 1 + max(table.values()) if table else 0


def plain_ranks(arena, team, targets):
    """The ranks by the words of point 24: in each round the positions that get their rank."""
    ranks = {number: 0 for number in targets}
    rank = 0
    while True:
        rank += 1
        new = []
        for number, row in enumerate(arena.ways):
            own = [to for name, to in row if arena.game.move(name).player in team]
            other = [to for name, to in row if arena.game.move(name).player not in team]
            forced = all(to in ranks for to in other) and (not own or any(to in ranks for to in own))
            if number not in ranks and row and forced:
                new.append(number)
        if not new:
            return ranks
        ranks.update({number: rank for number in new})


def random_rule(rng, *, parties=2, hands=3, outcomes=3, top=3):
    """A small rule; worths are from 0 to `top`."""
    sizes = [rng.randint(1, hands) for _ in range(parties)]
    worths = [[[rng.randint(0, top) for _ in range(outcomes)] for _ in range(size)] for size in sizes]
    return Rule(worths, [rng.randrange(outcomes) for _ in range(prod(sizes))])


def random_box(rng, rule):
    """A box inside the full box that is not empty."""
    return Box([rng.sample(range(size), rng.randint(1, size)) for size in rule.sizes])


def constant(rule, box):
    return len({rule(combination) for combination in box}) == 1


def random_form(rng, rule, box, depth=4):
    """The form of a tree that fits the rule behind a path with this box."""
    parties = [party for party, side in enumerate(box.sides) if len(side) > 1]
    if depth == 0 or not parties or rng.random() < 0.15:
        return ("end", rule(rng.choice(list(box))))
    party = rng.choice(parties)
    side = rng.sample(box[party], len(box[party]))
    cuts = sorted(rng.sample(range(1, len(side)), rng.randint(1, min(3, len(side) - 1))))
    cells = [side[low:high] for low, high in zip([0, *cuts], [*cuts, len(side)])]
    return ("ask", party, [(cell, random_form(rng, rule, box.with_side(party, cell), depth - 1)) for cell in cells])


def right_form(rng, rule, box):
    """The form of a tree that carries out the rule in this box."""
    if constant(rule, box):
        return ("end", rule(next(iter(box))))
    party = rng.choice([party for party, side in enumerate(box.sides) if len(side) > 1])
    cut = rng.randint(1, len(box[party]) - 1)
    cells = [box[party][:cut], box[party][cut:]]
    rng.shuffle(cells)
    return ("ask", party, tuple((cell, right_form(rng, rule, box.with_side(party, cell))) for cell in cells))


def chain_form(length):
    """The form of a tree with as many questions on its longest path; party 0 has one hand more."""
    form = ("end", length)
    for hand in reversed(range(length)):
        form = ("ask", 0, (((hand,), ("end", hand)), (tuple(range(hand + 1, length + 1)), form)))
    return form


def with_sides(sides, party, side):
    return (*sides[:party], tuple(side), *sides[party + 1:])


def plain_rule(rng, sizes, count):
    """A rule that is made with a plain tree, which has at most `count` ends with outcomes of their own. A hand is
    worth something between 50 and 100 where the outcome can be its own, and just its floor where the
    answers depart from it, so that questions of large boxes tempt."""
    ends = []

    def grow(sides, many, way):
        open_parties = [party for party, side in enumerate(sides) if len(side) > 1]
        if many < 2 or not open_parties:
            ends.append((sides, way))
            return
        party = rng.choice(open_parties)
        side = rng.sample(sides[party], len(sides[party]))
        cut = rng.randint(1, len(side) - 1)
        half = rng.randint(1, many - 1)
        for cell, part in ((sorted(side[:cut]), half), (sorted(side[cut:]), many - half)):
            grow(with_sides(sides, party, cell), part, (*way, (party, tuple(cell))))

    grow(tuple(tuple(range(size)) for size in sizes), count, ())

    def worth_of(party, hand):
        row = [rng.randint(50, 100) if hand in sides[party] else None for sides, _ in ends]
        own = [at for at, (sides, _) in enumerate(ends) if hand in sides[party]]
        for at, (_, way) in enumerate(ends):
            if row[at] is None:
                depth = [step for step, (asked, cell) in enumerate(way) if asked == party and hand not in cell][0]
                row[at] = min(row[other] for other in own if ends[other][1][:depth] == way[:depth])
        return row

    worths = [[worth_of(party, hand) for hand in range(size)] for party, size in enumerate(sizes)]
    table = []
    for combination in product(*[range(size) for size in sizes]):
        table.append([at for at, (sides, _) in enumerate(ends)
                      if all(hand in side for hand, side in zip(combination, sides))][0])
    return Rule(worths, table)


def partitions(hands):
    """All ways to divide the hands into cells."""
    if not hands:
        return [[]]
    found = []
    for rest in partitions(hands[1:]):
        found.append([[hands[0]], *rest])
        found.extend([[*rest[:at], [hands[0], *cell], *rest[at + 1:]] for at, cell in enumerate(rest)])
    return found


def is_plain_question(rule, sides, party, cells):
    """Whether a question is plain in the box with these sides, by the words of point 47."""
    rows = [(combination[party], rule(combination)) for combination in product(*sides)]
    for cell in cells:
        for hand in cell:
            floor = min(rule.worth(party, hand, outcome) for own, outcome in rows if own == hand)
            outside = [rule.worth(party, hand, outcome) for own, outcome in rows if own not in cell]
            if outside and floor < max(outside):
                return False
    return True


def plain_due(rule, sides, known=None):
    """The least length of a plain tree in the box with these sides, over all trees; None if there is none."""
    known = {} if known is None else known
    if sides not in known:
        known[sides] = 0
        if len({rule(combination) for combination in product(*sides)}) > 1:
            lengths = []
            for party, side in enumerate(sides):
                for cells in partitions(list(side)):
                    if len(cells) > 1 and is_plain_question(rule, sides, party, cells):
                        behind = [plain_due(rule, with_sides(sides, party, cell), known) for cell in cells]
                        if None not in behind:
                            lengths.append(1 + max(behind))
            known[sides] = min(lengths, default=None)
    return known[sides]


def random_house(rng, *, tools=2, sessions=3, beats=3, top=2, worth=4):
    """A small house; some sessions may need more than there is."""
    names = ["oven", "b", "a", "d"][:tools]
    menu = []
    for _ in range(sessions):
        needs = [(rng.randrange(beats), rng.choice(names), rng.choice([1, 1, 1, 2])) for _ in range(rng.randint(1, 3))]
        name = rng.choice(["one", "two", "three"])
        menu.append(Session(name, needs, first=rng.randint(-worth, worth), second=rng.randint(-worth, worth)))
    return House([(name, rng.randint(0, top)) for name in names], menu)


def small_houses(seed, count, *, most=40, **kinds):
    """Random houses with at most as many reachable loads."""
    rng = random.Random(seed)
    while count > 0:
        house = random_house(rng, **kinds)
        if len(plain_loads(house, most)) <= most:
            count -= 1
            yield rng, house


def plain_step(house, load, index):
    """The load after a start of a session by the words of point 60, or None if it does not fit."""
    rows = [list(row) for row in load]
    for beat, tool, amount in house.menu[index].needs:
        place = house.tools.index(tool)
        rows[beat][place] += amount
        if rows[beat][place] > house.numbers[place]:
            return None
    return tuple(map(tuple, rows))


def plain_beat(house, load):
    return (*load[1:], (0,) * len(house.tools))


def plain_loads(house, most=None):
    """All reachable loads, or more than `most` of them."""
    found = [((0,) * len(house.tools),) * house.horizon]
    for load in found:
        behind = [plain_step(house, load, index) for index in range(len(house.menu))]
        for other in [*behind, plain_beat(house, load)]:
            if other is not None and other not in found:
                found.append(other)
        if most is not None and len(found) > most:
            break
    return found


def plain_use(house, schedule, ring=False):
    """How much is used: a dict from (beat, tool) to the amount, by the words of point 61."""
    used = {}
    for start, window in enumerate(schedule):
        for session, times in zip(house.menu, window):
            for beat, tool, amount in session.needs:
                at = (start + beat) % len(schedule) if ring else start + beat
                used[(at, tool)] = used.get((at, tool), 0) + times * amount
    return used


def plain_lack(house, schedule, ring=False):
    """The first lack of a schedule or of a ring, or None."""
    lacks = [(beat, house.tools.index(tool)) for (beat, tool), used in plain_use(house, schedule, ring).items()
             if used > house.numbers[house.tools.index(tool)]]
    return None if not lacks else (min(lacks)[0], house.tools[min(lacks)[1]])


def plain_totals(house, schedule):
    return (sum(times * session.first for window in schedule for session, times in zip(house.menu, window)),
            sum(times * session.second for window in schedule for session, times in zip(house.menu, window)),
            len(schedule))


def still_window(house):
    return (0,) * len(house.menu)


def plain_prices(house, bound):
    """By the words of point 65: for each reachable load the greatest sum over all finite sequences of steps from it,
    or None if there is no greatest one."""
    a, b, c = bound
    loads = plain_loads(house)
    ways = {}
    for load in loads:
        started = [(a * session.first + b * session.second, plain_step(house, load, index))
                   for index, session in enumerate(house.menu)]
        ways[load] = [(gain, behind) for gain, behind in started if behind is not None] + [(-c, plain_beat(house, load))]
    prices = {load: 0 for load in loads}
    # A greatest sum is that of a sequence that comes to no load twice.
    for _ in range(len(loads) + 1):
        before = prices
        prices = {load: max([before[load]] + [gain + before[behind] for gain, behind in ways[load]]) for load in loads}
        if prices == before:
            return prices
    return None


def bound_value(bound, totals):
    """What a bound says about some totals: not above 0 if it holds for them."""
    return bound[0] * totals[0] + bound[1] * totals[1] - bound[2] * totals[2]


def fractions_of(mix):
    return (Fraction(mix[0], mix[2]), Fraction(mix[1], mix[2]))


def turn_of(one, other, third):
    """Above 0 if three points follow each other counterclockwise."""
    return (other[0] - one[0]) * (third[1] - one[1]) - (other[1] - one[1]) * (third[0] - one[0])


def plain_hull(points):
    """The corners of the least convex polygon of some points, counterclockwise, beginning with the least point."""
    points = sorted(set(points))
    if len(points) == 1:
        return points
    halves = []
    for row in (points, points[::-1]):
        chain = []
        for point in row:
            while len(chain) > 1 and turn_of(chain[-2], chain[-1], point) <= 0:
                chain.pop()
            chain.append(point)
        halves.append(chain[:-1])
    return halves[0] + halves[1]


def in_hull(corners, point):
    """Whether a point lies in the polygon with these corners, which are listed counterclockwise."""
    if len(corners) == 1:
        return point == corners[0]
    if len(corners) == 2:
        return turn_of(*corners, point) == 0 and min(corners) <= point <= max(corners)
    return all(turn_of(one, other, point) >= 0 for one, other in zip(corners, corners[1:] + corners[:1]))
