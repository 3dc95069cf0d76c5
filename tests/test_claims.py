"""Point 67: claimed records."""

import inspect
import random
import unittest

from playhall.arenas import Arena
from playhall.claims import Desk
from playhall.classes import classes
from playhall.errors import BadEntry, NoPlayer
from playhall.forcing import targets_of
from playhall.gametext import read_game
from playhall.referee import report
from playhall.scoretext import read_scoring
from playhall.scorings import Scoring
from tests.helpers import Checks, end, plain_ranks, random_games, random_scoring, shown, step

# A pile of stones; who cheats shows the same sign, at first, as who plays fair.
GAME = read_game("\n".join([
    "players ann bob",
    "counter stones 6 6",
    "counter turn 1 0",
    "move aone ann if turn=0 do stones-1 turn+1 show take",
    "move atwo ann if turn=0 do stones-2 turn+1 show take foul",
    "move bone bob if turn=1 do stones-1 turn-1 show one",
    "move btwo bob if turn=1 do stones-2 turn-1 show two",
    "goal blost if stones=0 turn=1",
    "goal low if stones<=3",
]))
ARENA = Arena(GAME)
SCORING = read_scoring("tally t 0\non aone t +1*t +1\non btwo t +2*t -5\nscore +1*t")
WORDS = {(True, False): "clean", (False, True): "foul", (True, True): "doubt"}


class PlainDesk:
    """What is true of a record where it stands, by the words of point 67."""

    def __init__(self, arena, scoring):
        self.arena, self.scoring = arena, scoring
        self.done, self.ahead = [], []

    def enter(self, entry):
        game = self.arena.game
        if entry[0] == "play":
            position = end(game, game.start, self.done)
            for _ in range(entry[2]):
                names = [move.name for move in game.moves]
                position = step(game, position, entry[1]) if position is not None and entry[1] in names else None
            if position is None:
                return False
            self.done, self.ahead = self.done + [entry[1]] * entry[2], []
            return True
        source, goal = (self.done, self.ahead) if entry[0] == "back" else (self.ahead, self.done)
        if entry[1] > len(source):
            return False
        for _ in range(entry[1]):
            if entry[0] == "back":
                self.ahead.insert(0, self.done.pop())
            else:
                self.done.append(self.ahead.pop(0))
        return True

    def position(self):
        return end(self.arena.game, self.arena.game.start, self.done)

    def number(self):
        return self.arena.positions.index(self.position())

    def score(self):
        return self.scoring.score(self.done)

    def report(self):
        return WORDS[report(self.arena, shown(self.arena.game, self.done))]

    def class_number(self):
        return classes(self.arena)[self.number()]

    def rank(self, goal, team):
        return plain_ranks(self.arena, team, targets_of(self.arena, goal)).get(self.number())

    def true_claims(self, team):
        game = self.arena.game
        return [
            *[("at", counter, value) for counter, value in zip(game.counters, self.position())],
            *[("goal", goal) for goal, _ in game.goals if self.number() in targets_of(self.arena, goal)],
            ("score", self.score()), ("report", self.report()), ("class", self.class_number()),
            *[("rank", goal, self.rank(goal, team), team) for goal, _ in game.goals]]

    def false_claims(self, team):
        game = self.arena.game
        return [
            *[("at", counter, value + change) for counter, value in zip(game.counters, self.position()) for change in (-1, 1, -10 ** 40)],
            *[("goal", goal) for goal, _ in game.goals if self.number() not in targets_of(self.arena, goal)],
            *[("score", self.score() + change) for change in (-1, 1, 10 ** 39)],
            *[("report", word) for word in ("clean", "foul", "doubt", "none", "") if word != self.report()],
            *[("class", number) for number in (-1, 0, 1, 2, 1000) if number != self.class_number()],
            *[("rank", goal, rank, team) for goal, _ in game.goals for rank in (None, 0, 1, 2, -1) if rank != self.rank(goal, team)],
            ("at", "none", 0), ("at", game.players[0], 0), ("goal", "none"), ("rank", "none", None, team),
            *[("rank", goal, self.rank(goal, (*team, "zoe")), (*team, "zoe")) for goal, _ in game.goals],
            *[("rank", goal, None, ("zoe", *team)) for goal, _ in game.goals]]


def random_entries(rng, game, count, most=3):
    names = [move.name for move in game.moves]
    return [rng.choice([("play", rng.choice(names), rng.choice([1, 1, 2])), ("play", rng.choice(names), 1),
                        ("back", rng.randint(1, most)), ("forth", rng.randint(1, most))]) for _ in range(count)]


class DeskTest(Checks):
    def setUp(self):
        self.desk = Desk(ARENA, SCORING)

    def truths(self, *entries):
        found = list(self.desk.judged(list(entries)))
        self.assertTrue(all(truth is True or truth is False for _, truth in found))
        return found

    def test_claims_at_the_start(self):
        self.assertEqual(self.truths(
            ("at", "stones", 6), ("at", "stones", 5), ("at", "turn", 0), ("goal", "low"), ("goal", "blost"), ("class", 0), ("class", 1),
            ("score", 0), ("score", 1), ("report", "clean"), ("report", "foul"), ("report", "doubt"),
        ), list(enumerate([True, False, True, False, False, True, False, True, False, True, False, False])))
        self.assertEqual(list(self.desk.judged([])), [])
        self.assertIsNone(self.desk.first_false([]))

    def test_claims_behind_plays_and_behind_moves_that_are_taken_back(self):
        entries = [
            ("play", "aone", 1), ("score", 1), ("report", "doubt"), ("at", "stones", 5), ("play", "btwo", 1), ("score", -3),
            ("at", "stones", 3), ("goal", "low"), ("report", "doubt"), ("back", 1), ("score", 1), ("goal", "low"), ("back", 1), ("score", 0),
            ("report", "clean"), ("forth", 2), ("score", -3), ("goal", "low"), ("at", "turn", 0)]
        self.assertEqual(list(self.desk.judged(entries)), [
            (1, True), (2, True), (3, True), (5, True), (6, True), (7, True), (8, True), (10, True), (11, False), (13, True), (14, True),
            (16, True), (17, True), (18, True)])
        self.assertEqual(self.desk.first_false(entries), 11)
        self.assertEqual(self.desk.first_false(tuple(entries[:11])), None)

    def test_names_that_do_not_exist(self):
        self.assertEqual(self.truths(
            ("at", "none", 0), ("at", "ann", 6), ("goal", "none"), ("goal", "stones"), ("class", -1), ("class", 10 ** 40), ("report", ""),
            ("report", "none"), ("rank", "none", None, ("ann",)), ("rank", "none", 0, ()), ("rank", "low", None, ("zoe",)),
            ("rank", "low", None, ("ann", "zoe", "bob")), ("rank", "low", None, ("low",)),
        ), [(index, False) for index in range(13)])

    def test_ranks(self):
        rank = plain_ranks(ARENA, ["ann", "bob"], targets_of(ARENA, "low"))[0]
        self.assertEqual(rank, 2)
        self.assertEqual(self.truths(
            ("rank", "low", 2, ("ann", "bob")), ("rank", "low", 2, ("bob", "ann", "bob")), ("rank", "low", 3, ("ann", "bob")),
            ("rank", "low", None, ("ann", "bob")), ("rank", "blost", None, ("ann",)), ("rank", "low", 3, ()), ("rank", "low", 3, ("ann",)),
        ), list(enumerate([True, True, False, False, plain_ranks(ARENA, ["ann"], targets_of(ARENA, "blost")).get(0) is None, True,
                           plain_ranks(ARENA, ["ann"], targets_of(ARENA, "low"))[0] == 3])))

    def test_random_records(self):
        rng = random.Random(351)
        words = {}
        for game in random_games(352, 60, moves=5):
            arena = Arena(game)
            scoring = random_scoring(rng, [move.name for move in game.moves])
            desk, plain = Desk(arena=arena, scoring=scoring), PlainDesk(arena, scoring)
            team = tuple(rng.sample(["ann", "bob"], rng.randint(0, 2)))
            record, expected = [], []
            for entry in [None, *random_entries(rng, game, 12)]:
                if entry is None or plain.enter(entry):
                    record += [] if entry is None else [entry]
                    chosen = [(claim, True) for claim in plain.true_claims(team)]
                    chosen += [(claim, False) for claim in plain.false_claims(team)]
                    for claim, truth in rng.sample(chosen, 8):
                        expected.append((len(record), truth))
                        record.append(claim)
                    words[plain.report()] = True
                else:
                    refused = [*record, entry, ("score", 0)]
                    self.refused(BadEntry, {"index": len(record)}, list, desk.judged(refused))
            kept = list(record)
            self.assertEqual(list(desk.judged(record)), expected)
            false = [index for index, truth in expected if not truth]
            self.assertEqual(desk.first_false(record), false[0] if false else None)
            self.assertEqual(record, kept)
        self.assertEqual(sorted(words), ["clean", "doubt", "foul"])

    def test_refused_entries(self):
        for bad in (("play", "bone", 1), ("play", "none", 1), ("play", "aone", 2), ("back", 1), ("forth", 1)):
            claims = [("score", 0), ("score", 1), ("goal", "low")]
            found = self.desk.judged([*claims, bad, ("score", 0)])
            self.assertEqual([next(found), next(found), next(found)], [(0, True), (1, False), (2, False)])
            self.refused(BadEntry, {"index": 3}, next, found)
            # Behind a false claim it is not reached; before it, or without one, it is.
            self.assertEqual(self.desk.first_false([claims[0], claims[1], bad]), 1)
            self.refused(BadEntry, {"index": 1}, self.desk.first_false, [claims[0], bad, claims[1]])
            self.refused(BadEntry, {"index": 2}, self.desk.first_false, [("play", "atwo", 1), ("score", 0), bad if bad[0] != "back"
                         and bad[1] != "bone" else ("back", 2)])
        self.refused(BadEntry, {"index": 0}, self.desk.first_false, [("back", 1), ("score", 5)])

    def test_first_false_and_judged_on_the_same_lists(self):
        for entries in ([("score", 0)], [("score", 1)], [("play", "aone", 1), ("score", 0)], [("play", "aone", 1), ("score", 1), ("back", 1)],
                        [("class", 0), ("class", 0), ("class", 5), ("class", 6)]):
            false = [index for index, truth in self.desk.judged(entries) if not truth]
            self.assertEqual(self.desk.first_false(entries=entries), false[0] if false else None)

    def test_it_is_a_generator(self):
        self.assertTrue(inspect.isgeneratorfunction(Desk.judged))
        self.assertEqual(list(self.desk.judged(entries=())), [])

    def test_two_generators_side_by_side(self):
        one, other = self.desk.judged([("play", "aone", 1), ("score", 1)]), self.desk.judged([("score", 0), ("score", 0)])
        self.assertEqual([next(one), next(other), next(other)], [(1, True), (0, True), (1, True)])


class FullRecordTest(Checks):
    def test_by_hand(self):
        desk = Desk(ARENA, SCORING)
        entries = [("play", "aone", 1), ("play", "btwo", 1), ("back", 2)]
        ranks = plain_ranks(ARENA, ["bob", "bob"], targets_of(ARENA, "blost"))
        low = plain_ranks(ARENA, ["bob", "bob"], targets_of(ARENA, "low"))
        team = ("bob", "bob")
        numbers = [ARENA.number(position) for position in ((5, 1), (3, 0), (6, 0))]
        expected = []
        for entry, number, score, word in zip(entries, numbers, (1, -3, 0), ("doubt", "doubt", "clean")):
            expected += [entry, ("score", score), ("report", word), ("class", classes(ARENA)[number]),
                         ("rank", "blost", ranks.get(number), team), ("rank", "low", low.get(number), team)]
        found = desk.full_record(entries=entries, team=["bob", "bob"])
        self.assertEqual(found, expected)
        self.assertIsInstance(found, list)
        self.assertTrue(all(isinstance(row, tuple) for row in found))
        self.assertEqual(entries, [("play", "aone", 1), ("play", "btwo", 1), ("back", 2)])
        self.assertEqual([row[3] for row in desk.full_record(tuple(entries), ()) if row[0] == "rank"], [()] * 6)
        self.assertEqual(desk.full_record([], ["ann"]), [])

    def test_random_records(self):
        rng = random.Random(353)
        for game in random_games(354, 40, moves=5):
            arena = Arena(game)
            scoring = random_scoring(rng, [move.name for move in game.moves])
            desk, plain = Desk(arena, scoring), PlainDesk(arena, scoring)
            team = rng.sample(["ann", "bob"], rng.randint(0, 2))
            entries, expected = [], []
            for entry in random_entries(rng, game, 10):
                if plain.enter(entry):
                    entries.append(entry)
                    expected += [entry, ("score", plain.score()), ("report", plain.report()), ("class", plain.class_number())]
                    expected += [("rank", goal, plain.rank(goal, team), tuple(team)) for goal, _ in game.goals]
                else:
                    self.refused(BadEntry, {"index": len(entries)}, desk.full_record, [*entries, entry], team)
            full = desk.full_record(entries, team)
            self.assertEqual(full, expected)
            judged = list(desk.judged(full))
            self.assertTrue(all(truth for _, truth in judged))
            self.assertEqual(len(judged), len(full) - len(entries))
            self.assertIsNone(desk.first_false(full))

    def test_no_player_before_refused_entries(self):
        desk = Desk(ARENA, SCORING)
        self.refused(NoPlayer, {"name": "zoe"}, desk.full_record, [("back", 1)], ["ann", "zoe", "eve"])
        self.refused(NoPlayer, {"name": "zoe"}, desk.full_record, [], ["zoe"])
        bare = Desk(Arena(read_game("players ann")), Scoring([], [], []))
        self.refused(NoPlayer, {"name": "bob"}, bare.full_record, [], ("bob",))
        self.refused(BadEntry, {"index": 0}, bare.full_record, [("back", 1)], ["ann"])
        self.refused(BadEntry, {"index": 1}, desk.full_record, [("play", "aone", 1), ("play", "aone", 1)], ["ann"])

    def test_a_long_record(self):
        game = read_game("players p\ncounter a 199 0\nmove up p if a<=198 do a+1 show s\nmove fly p if a<=198 do a+1 show s foul\n"
                         "move down p do a-1 show t\ngoal top if a=199")
        desk = Desk(Arena(game), read_scoring("tally x 1\non up x +1*x +1\non down x +3*x\nscore +1*x"))
        entries = [("play", "up", 150), *[("back", 100), ("forth", 100)] * 98, ("play", "down", 3)]
        full = desk.full_record(entries, ["p"])
        self.assertEqual(len(full), 5 * len(entries))
        # The tally is one more than the number of the position, until it is multiplied by 3.
        self.assertEqual(full[-4:], [("score", 151 * 27), ("report", "doubt"), ("class", 147), ("rank", "top", 52, ("p",))])
        self.assertIsNone(desk.first_false(full))


if __name__ == "__main__":
    unittest.main()
