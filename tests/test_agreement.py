"""Point 29 and 30: basis plays, agreement of scorings, and score papers."""

import copy
import random
import unittest

from playhall.agreement import basis_plays, check_score_paper, parting_score
from playhall.arenas import Arena
from playhall.gametext import read_game
from playhall.scorings import Scoring
from playhall.scoretext import read_scoring
from tests.helpers import NIM, all_plays, end, fraction_rank, is_sum, random_game, random_scoring


def vector(one, other, play):
    return (1, *one.values_of(play), *other.values_of(play))


def samples(seed, count):
    rng = random.Random(seed)
    for index in range(count):
        game = random_game(rng, moves=4)
        names = [move.name for move in game.moves]
        one = random_scoring(rng, names, tallies=index % 3)
        other = one if index % 5 == 0 else random_scoring(rng, names, tallies=2)
        yield game, one, other


TAPS = read_game("players p\ncounter here 1 0\nmove go p do here+1\nmove back p do here-1\nmove stay p if here=0")
STEPS = read_scoring("tally n 0\non go n +1*n +1\non back n +1*n +1\nscore +1*n")
TWICE = read_scoring("tally n 0\non go n +1*n +2\nscore +1*n")
ALSO = read_scoring("tally far 3\non go far +1*far +1\non back far +1*far +1\nscore +1*far -3")


class BasisTest(unittest.TestCase):
    def judge(self, arena, one, other, plays):
        """Judges the lists by the words of point 29."""
        game = arena.game
        self.assertEqual(len(plays), arena.size)
        for number, listed in enumerate(plays):
            self.assertGreater(len(listed), 0)
            for play in listed:
                self.assertEqual(end(game, game.start, play), arena.positions[number])
            vectors = [vector(one, other, play) for play in listed]
            self.assertEqual(fraction_rank(vectors), len(listed))
            # All plays: those that are one move longer than listed ones lie in the spans behind them.
            for play in listed:
                for name, to in arena.ways[number]:
                    behind = [vector(one, other, found) for found in plays[to]]
                    self.assertTrue(is_sum(behind, vector(one, other, [*play, name])))
        self.assertTrue(is_sum([vector(one, other, play) for play in plays[0]], vector(one, other, [])))

    def test_random_scorings(self):
        for game, one, other in samples(1, 60):
            arena = Arena(game)
            plays = basis_plays(arena, one, other)
            self.judge(arena, one, other, plays)
            for play, position in all_plays(game, game.start, 4):
                listed = [vector(one, other, found) for found in plays[arena.number(position)]]
                self.assertTrue(is_sum(listed, vector(one, other, play)))

    def test_positions_with_dependent_and_with_independent_vectors(self):
        arena = Arena(TAPS)
        plays = basis_plays(arena, STEPS, ALSO)
        self.judge(arena, STEPS, ALSO, plays)
        self.assertEqual([len(listed) for listed in plays], [2, 2])
        plays = basis_plays(arena, STEPS, TWICE)
        self.judge(arena, STEPS, TWICE, plays)
        self.assertEqual([len(listed) for listed in plays], [2, 2])
        free = Scoring([("a", 0), ("b", 0)], [("go", "a", [(1, "a"), (1, None)]), ("stay", "b", [(1, "b"), (1, None)])], [])
        plays = basis_plays(arena, free, STEPS)
        self.judge(arena, free, STEPS, plays)
        self.assertEqual([len(listed) for listed in plays], [3, 3])

    def test_scorings_without_tallies(self):
        one, other = Scoring([], [], [(2, None)]), Scoring([], [], [(3, None)])
        plays = basis_plays(Arena(NIM), one, other)
        self.assertEqual([len(listed) for listed in plays], [1] * Arena(NIM).size)
        self.judge(Arena(NIM), one, other, plays)
        self.assertIn([], plays[0])
        self.assertEqual(parting_score(Arena(NIM), one, other), [])
        self.assertIsNone(parting_score(Arena(NIM), one, one))
        self.assertTrue(check_score_paper(Arena(NIM), one, one, plays))

    def test_great_numbers(self):
        great = Scoring([("a", 10 ** 20), ("b", 1)], [("stay", "a", [(10 ** 20 - 1, "a"), (-3, "b")])], [(1, "a")])
        plays = basis_plays(Arena(TAPS), great, STEPS)
        self.judge(Arena(TAPS), great, STEPS, plays)
        self.assertEqual(parting_score(Arena(TAPS), great, STEPS), [])

    def test_new_lists_and_named_arguments(self):
        arena = Arena(TAPS)
        plays = basis_plays(arena=arena, scoring=STEPS, other=TWICE)
        expected = copy.deepcopy(plays)
        plays[0].clear()
        plays[1][0].append("x")
        plays.pop()
        self.assertEqual(basis_plays(arena, STEPS, TWICE), expected)


class PartingTest(unittest.TestCase):
    def test_random_scorings(self):
        found = 0
        for game, one, other in samples(2, 120):
            parting = parting_score(Arena(game), one, other)
            differing = [play for play, _ in all_plays(game, game.start, 5) if one.score(play) != other.score(play)]
            if parting is None:
                self.assertEqual(differing, [])
                self.assertTrue(check_score_paper(Arena(game), one, other, basis_plays(Arena(game), one, other)))
                found += 1
            else:
                self.assertIsNotNone(end(game, game.start, parting))
                self.assertNotEqual(one.score(parting), other.score(parting))
                if len(parting) <= 5:
                    self.assertEqual(len(parting), min(len(play) for play in differing))
                else:
                    self.assertEqual(differing, [])
        self.assertGreater(found, 20)

    def test_a_late_difference(self):
        game = read_game("players p\ncounter n 9 0\nmove up p do n+1\nmove odd p if n=7")
        one = read_scoring("tally seen 0\non odd seen +1*seen +1\nscore +1*seen")
        other = read_scoring("score +0")
        self.assertEqual(parting_score(Arena(game), one, other), ["up"] * 7 + ["odd"])

    def test_equal_scores_of_unlike_tallies(self):
        self.assertIsNone(parting_score(Arena(TAPS), STEPS, ALSO))
        self.assertIsNone(parting_score(Arena(TAPS), TWICE, TWICE))
        self.assertEqual(parting_score(arena=Arena(TAPS), scoring=STEPS, other=TWICE), ["go"])

    def test_what_cancels_out(self):
        # The scores differ at odd times only, and both tallies grow.
        twice = read_scoring("tally n 0\non go n +1*n +2\non back n +1*n\nscore +1*n")
        self.assertEqual(parting_score(Arena(TAPS), STEPS, twice), ["go"])


class PaperTest(unittest.TestCase):
    def setUp(self):
        self.arena = Arena(TAPS)
        self.paper = basis_plays(self.arena, STEPS, ALSO)

    def check(self, paper, one=STEPS, other=ALSO):
        return check_score_paper(self.arena, one, other, paper)

    def test_right(self):
        self.assertIs(self.check(self.paper), True)
        self.assertTrue(self.check([[*self.paper[0], ["stay"], ["stay"]], self.paper[1]]))
        self.assertTrue(self.check(tuple(tuple(tuple(play) for play in listed) for listed in self.paper)))
        self.assertTrue(check_score_paper(arena=self.arena, scoring=STEPS, other=ALSO, plays=self.paper))

    def test_another_position(self):
        self.assertIs(self.check([self.paper[1], self.paper[0]]), False)
        self.assertFalse(self.check([[*self.paper[0], ["go"]], self.paper[1]]))

    def test_not_legal_and_unknown(self):
        self.assertFalse(self.check([[*self.paper[0], ["back", "go"]], self.paper[1]]))
        self.assertFalse(self.check([[*self.paper[0], ["nothing"]], self.paper[1]]))
        self.assertFalse(self.check([self.paper[0], [*self.paper[1], ["go", "stay"]]]))
        self.assertFalse(self.check([self.paper[0], [*self.paper[1], ["go", "zz.y"]]]))

    def test_a_list_missing_or_too_many(self):
        self.assertFalse(self.check(self.paper[:1]))
        self.assertFalse(self.check([]))
        self.assertFalse(self.check([*self.paper, []]))
        self.assertFalse(self.check([*self.paper, self.paper[1]]))

    def test_a_play_left_out(self):
        for number in (0, 1):
            for index in range(len(self.paper[number])):
                paper = [list(listed) for listed in self.paper]
                del paper[number][index]
                self.assertFalse(self.check(paper))
        self.assertFalse(self.check([[], []]))
        # Without the empty play, but with plays whose vectors give its vector.
        self.assertTrue(self.check([[["go", "back"], ["go", "back", "go", "back"]], self.paper[1]]))
        self.assertFalse(self.check([[["go", "back"]], [["go"]]]))

    def test_the_empty_play(self):
        # Behind `once` there is nothing but what is listed; only the start's own vector is missing.
        arena = Arena(read_game("players p\ncounter n 1 0\nmove same p\nmove once p do n+1"))
        one = read_scoring("tally a 1\non same a +0\nscore +0")
        self.assertTrue(check_score_paper(arena, one, one, [[[], ["same"]], [["once"], ["same", "once"]]]))
        self.assertFalse(check_score_paper(arena, one, one, [[["same"]], [["same", "once"]]]))
        self.assertFalse(check_score_paper(arena, one, one, [[["same"]], [["once"], ["same", "once"]]]))

    def test_different_scores(self):
        self.assertFalse(self.check(basis_plays(self.arena, STEPS, TWICE), STEPS, TWICE))
        paper = basis_plays(self.arena, STEPS, STEPS)
        self.assertTrue(self.check(paper, STEPS, STEPS))
        other = read_scoring("tally n 0\non go n +1*n +1\non back n +1*n +1\nscore +1*n +1")
        self.assertFalse(self.check(paper, STEPS, other))
        self.assertFalse(self.check(paper, other, STEPS))

    def test_random_papers(self):
        rng = random.Random(5)
        found = {True: 0, False: 0}
        for game, one, other in samples(3, 150):
            arena = Arena(game)
            other = rng.choice([one, one, other])
            paper = changed(rng, game, basis_plays(arena, one, other))
            before = copy.deepcopy(paper)
            right = is_paper(arena, one, other, paper)
            self.assertIs(check_score_paper(arena, one, other, paper), right)
            self.assertEqual(paper, before)
            found[right] += 1
        self.assertGreater(min(found.values()), 25)


def changed(rng, game, paper):
    """The paper with a play left out, put elsewhere or added, or as it is."""
    number = rng.randrange(len(paper))
    kind = rng.choice(["none", "out", "in", "away"])
    if kind in ("out", "away"):
        play = paper[number].pop(rng.randrange(len(paper[number])))
        if kind == "away":
            paper[rng.randrange(len(paper))].append(play)
    if kind == "in":
        paper[number].append([rng.choice(game.moves).name for _ in range(rng.randint(0, 3))])
    return paper


def is_paper(arena, one, other, paper):
    """Whether it is a score paper by the words of point 30."""
    game = arena.game
    if len(paper) != arena.size:
        return False
    for position, listed in zip(arena.positions, paper):
        for play in listed:
            if end(game, game.start, play) != position or one.score(play) != other.score(play):
                return False
    vectors = [[vector(one, other, play) for play in listed] for listed in paper]
    if not is_sum(vectors[0], vector(one, other, [])):
        return False
    return all(
        is_sum(vectors[to], vector(one, other, [*play, name]))
        for ways, listed in zip(arena.ways, paper) for play in listed for name, to in ways)


if __name__ == "__main__":
    unittest.main()
