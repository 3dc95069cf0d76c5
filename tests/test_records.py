"""Points 16 and 17: records, and attempts that are taken back when an error leaves them."""

import random
import unittest

from playhall.errors import BadEntry, Blocked, HallError, NoMove, NothingBack, NothingForth
from playhall.gametext import read_game
from playhall.positions import end_of
from playhall.records import Attempt, Record, attempted, replayed
from tests.helpers import NIM, WIDE, Checks, random_games, step

BIG = 10 ** 40
GAME = read_game("players ann\ncounter a 9 0\nmove p ann do a+2\nmove q ann do a-1")
DEEP = read_game(f"players p\ncounter a {BIG} 0\nmove up p do a+1\nmove down p do a-1\nmove nod p")


def state(record):
    """All that a record shows."""
    return (record.position, record.done, record.ahead, record.done_length, record.ahead_length, record.entries,
            record.effect.rows, record.moves_done, list(record))


def runs_of(moves):
    runs = []
    for name in moves:
        if runs and runs[-1][0] == name:
            runs[-1] = (name, runs[-1][1] + 1)
        else:
            runs.append((name, 1))
    return runs


class PlainRecord:
    """A record by the words of point 16, one move after another."""

    def __init__(self, game):
        self.game, self.done, self.ahead, self.entries = game, [], [], []

    def take(self, entry):
        """Makes an entry, and tells whether it can be made."""
        if entry[0] == "play":
            position = end_of(self.game, self.done)
            for _ in range(entry[2]):
                position = position and step(self.game, position, entry[1])
            if position is None:
                return False
            self.done, self.ahead = self.done + [entry[1]] * entry[2], []
        elif entry[0] == "back":
            if entry[1] > len(self.done):
                return False
            at = len(self.done) - entry[1]
            self.done, self.ahead = self.done[:at], self.done[at:] + self.ahead
        else:
            if entry[1] > len(self.ahead):
                return False
            self.done, self.ahead = self.done + self.ahead[:entry[1]], self.ahead[entry[1]:]
        self.entries.append(entry)
        return True

    def state(self):
        return (end_of(self.game, self.done), runs_of(self.done), runs_of(self.ahead), len(self.done), len(self.ahead),
                self.entries, self.game.shift_of(self.done).rows, self.done, runs_of(self.done))


class RecordTest(Checks):
    def test_example_of_the_interface(self):
        record = replayed(GAME, [("play", "p", 3), ("play", "q", 1), ("back", 2), ("forth", 1)])
        self.assertEqual([record.position, record.done, record.ahead, record.effect.rows],
                         [(6,), [("p", 3)], [("q", 1)], (("a", 0, 3, 6),)])

    def test_a_new_record(self):
        record = Record(game=GAME)
        self.assertIs(record.game, GAME)
        self.assertEqual(state(record), ((0,), [], [], 0, 0, [], (), [], []))

    def test_each_entry(self):
        record = Record(GAME)
        self.assertEqual(record.play("p", 3), (6,))
        self.assertEqual(state(record), ((6,), [("p", 3)], [], 3, 0, [("play", "p", 3)],
                                         (("a", 0, 3, 6),), ["p", "p", "p"], [("p", 3)]))
        self.assertEqual(record.play("p"), (8,))
        self.assertEqual((record.done, record.entries[-1]), ([("p", 4)], ("play", "p", 1)))
        self.assertEqual(record.play(name="q", times=2), (6,))
        self.assertEqual((record.done, record.done_length), ([("p", 4), ("q", 2)], 6))
        self.assertEqual(record.back(), (7,))
        self.assertEqual((record.done, record.ahead, record.entries[-1]),
                         ([("p", 4), ("q", 1)], [("q", 1)], ("back", 1)))
        self.assertEqual(record.back(count=3), (4,))
        self.assertEqual((record.done, record.ahead), ([("p", 2)], [("p", 2), ("q", 2)]))
        self.assertEqual((record.done_length, record.ahead_length), (2, 4))
        self.assertEqual(record.forth(), (6,))
        self.assertEqual((record.done, record.ahead, record.entries[-1]),
                         ([("p", 3)], [("p", 1), ("q", 2)], ("forth", 1)))
        self.assertEqual(record.forth(count=2), (7,))
        self.assertEqual((record.done, record.ahead), ([("p", 4), ("q", 1)], [("q", 1)]))
        self.assertEqual(record.play("q"), (6,))
        self.assertEqual((record.done, record.ahead), ([("p", 4), ("q", 2)], []))
        self.refused(NothingForth, {"most": 0}, record.forth)
        self.assertEqual(record.entries, [
            ("play", "p", 3), ("play", "p", 1), ("play", "q", 2), ("back", 1), ("back", 3), ("forth", 1), ("forth", 2),
            ("play", "q", 1)])

    def test_moves_count_one_by_one(self):
        record = replayed(GAME, [("play", "p", 3), ("back", 1)])
        self.assertEqual((record.done_length, record.ahead_length), (2, 1))

    def test_runs_become_one_where_they_touch(self):
        record = replayed(GAME, [("play", "p", 1), ("play", "p", 2), ("back", 1), ("back", 1)])
        self.assertEqual((record.done, record.ahead), ([("p", 1)], [("p", 2)]))
        record.take([("forth", 1), ("forth", 1)])
        self.assertEqual((record.done, record.ahead), ([("p", 3)], []))
        record.take([("play", "q", 1), ("play", "p", 1), ("back", 3), ("play", "p", 1)])
        self.assertEqual((record.done, record.ahead), ([("p", 3)], []))

    def test_refused_entries_change_nothing(self):
        record = replayed(GAME, [("play", "p", 3), ("play", "q", 2), ("back", 1)])
        before = state(record)
        self.refused(NoMove, {"name": "x"}, record.play, "x")
        self.refused(NoMove, {"name": "a"}, record.play, "a", 3)
        self.refused(Blocked, {"counter": "a"}, record.play, "p", 3)
        self.refused(Blocked, {"counter": "a"}, record.play, "q", 6)
        self.refused(Blocked, {"counter": "a"}, record.play, "p", BIG)
        self.refused(NothingBack, {"most": 4}, record.back, 5)
        self.refused(NothingBack, {"most": 4}, record.back, BIG)
        self.refused(NothingForth, {"most": 1}, record.forth, 2)
        self.refused(NothingForth, {"most": 1}, record.forth, BIG)
        self.assertEqual(state(record), before)
        self.assertEqual(record.play("q", 5), (0,))
        record.back(5)
        self.assertEqual(record.back(4), (0,))
        self.refused(NothingBack, {"most": 0}, record.back)
        self.assertEqual(record.forth(9), (0,))

    def test_great_numbers(self):
        record = Record(DEEP)
        self.assertEqual(record.play("up", BIG), (BIG,))
        self.refused(Blocked, {"counter": "a"}, record.play, "up")
        self.assertEqual((record.done, record.done_length), ([("up", BIG)], BIG))
        self.assertEqual(record.effect.rows, (("a", 0, 0, BIG),))
        self.assertEqual(record.play("nod", BIG), (BIG,))
        self.assertEqual(record.play("down", BIG - 5), (5,))
        self.assertEqual(record.back(2 * BIG - 5), (BIG,))
        self.assertEqual((record.done, record.ahead), ([("up", BIG)], [("nod", BIG), ("down", BIG - 5)]))
        self.assertEqual(record.back(BIG - 1), (1,))
        self.assertEqual(record.ahead_length, 3 * BIG - 6)
        self.refused(NothingForth, {"most": 3 * BIG - 6}, record.forth, 3 * BIG - 5)
        self.assertEqual(record.forth(3 * BIG - 6), (5,))
        self.refused(NothingBack, {"most": 3 * BIG - 5}, record.back, 3 * BIG - 4)
        self.assertEqual(record.back(3 * BIG - 5), (0,))
        self.assertEqual(record.ahead, [("up", BIG), ("nod", BIG), ("down", BIG - 5)])

    def test_many_moves_done(self):
        record = replayed(DEEP, [("play", "up", 4999), ("play", "nod", 1)])
        self.assertEqual(record.moves_done, ["up"] * 4999 + ["nod"])

    def test_200_entries(self):
        entries = [("play", "up", 1), ("play", "nod", 2)] * 100
        record = replayed(DEEP, entries)
        self.assertEqual((record.position, record.done_length, record.entries), ((100,), 300, entries))
        self.assertEqual(record.effect.rows, (("a", 0, BIG - 100, 100),))

    def test_random_entries(self):
        rng = random.Random(41)
        for game in [GAME, NIM, WIDE, *random_games(42, 20)]:
            record, plain = Record(game), PlainRecord(game)
            for _ in range(30):
                name = rng.choice([move.name for move in game.moves])
                entry = rng.choice([("play", name, 1), ("play", name, rng.randint(1, 3)), ("back", rng.randint(1, 4)),
                                    ("forth", rng.randint(1, 3))])
                if plain.take(entry):
                    self.assertEqual(record.take([entry]), end_of(game, plain.done))
                else:
                    self.refused(BadEntry, {"index": 0}, record.take, [entry])
                self.assertEqual(state(record), plain.state())

    def test_take(self):
        record = Record(GAME)
        entries = [("play", "p", 3), ("back", 1)]
        self.assertEqual(record.take(entries), (4,))
        self.assertEqual(record.take([]), (4,))
        self.assertEqual(record.take(entries=(("forth", 1),)), (6,))
        self.assertEqual(record.entries, [*entries, ("forth", 1)])
        self.assertEqual(entries, [("play", "p", 3), ("back", 1)])

    def test_take_makes_all_entries_or_none(self):
        record = replayed(GAME, [("play", "p", 2), ("back", 1)])
        before = state(record)
        for bad, cause, fields in [
            (("play", "x", 1), NoMove, {"name": "x"}),
            (("play", "p", 4), Blocked, {"counter": "a"}),
            (("back", 5), NothingBack, {"most": 3}),
            (("forth", 2), NothingForth, {"most": 0}),
        ]:
            for index, entries in enumerate([[bad], [("play", "p", 1), bad], [("play", "p", 1), ("play", "q", 1), bad]]):
                error = self.refused(BadEntry, {"index": index}, record.take, [*entries, ("play", "y", 1)])
                self.assertIs(error.__cause__.__class__, cause)
                self.assertEqual(state(record), before)
            self.assertEqual(vars(error.__cause__), {**fields})

    def test_plain(self):
        record = replayed(GAME, [("play", "p", 1), ("play", "p", 2), ("play", "q", 2), ("back", 1), ("play", "q", 2),
                                 ("back", 1)])
        before = state(record)
        plain = record.plain()
        self.assertIsNot(plain, record)
        self.assertEqual(state(plain), ((4,), [("p", 3), ("q", 2)], [], 5, 0, [("play", "p", 3), ("play", "q", 2)],
                                        record.effect.rows, record.moves_done, record.done))
        plain.back(2)
        self.assertEqual(state(record), before)
        self.assertEqual(state(Record(GAME).plain()), state(Record(GAME)))
        self.assertIs(plain.game, GAME)

    def test_replayed(self):
        self.assertEqual(state(replayed(game=GAME, entries=[])), state(Record(GAME)))
        error = self.refused(BadEntry, {"index": 1}, replayed, GAME, (("play", "p", 4), ("play", "p", 1), ("back", 9)))
        self.assertEqual(vars(error.__cause__), {"counter": "a"})

    def test_what_is_returned_is_new(self):
        record = replayed(GAME, [("play", "p", 2), ("play", "q", 2), ("back", 1)])
        before = state(record)
        for got in (record.done, record.ahead, record.entries, record.moves_done):
            got.append("more")
        self.assertEqual(state(record), before)

    def test_records_are_equal_only_to_themselves(self):
        record = Record(GAME)
        self.assertIs(record == record, True)
        self.assertIs(record == Record(GAME), False)


class AttemptTest(Checks):
    def setUp(self):
        self.record = replayed(GAME, [("play", "p", 3), ("back", 1)])

    def test_without_an_error_the_changes_stay(self):
        with Attempt(self.record) as held:
            self.assertIs(held, self.record)
            held.forth()
            held.play("q", 2)
        self.assertEqual(state(self.record), state(replayed(
            GAME, [("play", "p", 3), ("back", 1), ("forth", 1), ("play", "q", 2)])))

    def test_an_error_that_leaves_the_block_goes_on(self):
        before = state(self.record)
        for error in (ValueError("own"), KeyboardInterrupt(), HallError()):
            with self.assertRaises(error.__class__) as caught:
                with Attempt(record=self.record) as held:
                    held.back(2)
                    held.play("p")
                    raise error
            self.assertIs(caught.exception, error)
            self.assertEqual(state(self.record), before)
        self.assertEqual(self.record.forth(), (6,))

    def test_an_error_of_the_record_itself(self):
        before = state(self.record)
        with self.assertRaises(NothingBack):
            with Attempt(self.record):
                self.record.back(1)
                self.record.back(9)
        self.assertEqual(state(self.record), before)

    def test_an_error_that_is_caught_within_the_block(self):
        with Attempt(self.record) as held:
            held.play("q")
            with self.assertRaises(NoMove):
                held.play("x")
        self.assertEqual(self.record.done, [("p", 2), ("q", 1)])

    def test_one_block_within_another(self):
        before = state(self.record)
        with Attempt(self.record) as held:
            held.play("q")
            middle = state(held)
            with self.assertRaises(KeyError):
                with Attempt(held) as inner:
                    inner.play("q")
                    raise KeyError
            self.assertEqual(state(held), middle)
        self.assertEqual(state(self.record), middle)
        with self.assertRaises(KeyError):
            with Attempt(self.record) as held:
                with Attempt(held) as inner:
                    inner.back()
                inner.back()
                raise KeyError
        self.assertEqual(state(self.record), middle)
        self.assertNotEqual(middle, before)

    def test_the_same_attempt_several_times(self):
        attempt = Attempt(self.record)
        with attempt:
            self.record.play("q")
        middle = state(self.record)
        with self.assertRaises(KeyError):
            with attempt:
                self.record.play("q")
                raise KeyError
        self.assertEqual(state(self.record), middle)
        with self.assertRaises(KeyError):
            with attempt:
                self.record.play("q")
                with attempt:
                    self.record.play("q")
                raise KeyError
        self.assertEqual(state(self.record), middle)

    def test_attempted(self):
        seen = []

        def deed(held):
            seen.append(held)
            return held.play("p", 2), "more"

        self.assertEqual(attempted(self.record, deed), ((8,), "more"))
        self.assertIs(seen[0], self.record)
        self.assertEqual(self.record.position, (8,))
        self.assertIsNone(attempted(record=self.record, deed=lambda held: None))

    def test_attempted_with_an_error(self):
        before = state(self.record)

        def deed(held):
            attempted(held, lambda inner: inner.play("q"))
            held.play("x")

        self.refused(NoMove, {"name": "x"}, attempted, self.record, deed)
        self.assertEqual(state(self.record), before)


if __name__ == "__main__":
    unittest.main()
