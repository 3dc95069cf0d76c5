"""Points 26 and 27: scorings."""

import unittest

from playhall.errors import BadScoring
from playhall.scorings import Scoring
from tests.helpers import Checks

TALLIES = [("b", 1), ("a.x", -2)]
BIG = 10 ** 20


class ScoringTest(Checks):
    def bad(self, part, index, *args):
        self.refused(BadScoring, {"part": part, "index": index}, Scoring, *args)

    def test_attributes(self):
        scoring = Scoring(TALLIES, [("take", "a.x", [(2, None), (1, "b"), (3, "a.x"), (-4, "b")]), ("a", "b", [])],
                          [(1, None), (5, "b"), (0, "a.x")])
        self.assertEqual(scoring.tallies, ("b", "a.x"))
        self.assertEqual(scoring.start, (1, -2))
        self.assertEqual(scoring.rules, (("take", "a.x", ((3, "a.x"), (-3, "b"), (2, None))), ("a", "b", ())))
        self.assertEqual(scoring.form, ((5, "b"), (1, None)))

    def test_forms_are_merged(self):
        def form(*terms):
            return Scoring(TALLIES, [], terms).form

        self.assertEqual(form((1, "b"), (2, "b")), ((3, "b"),))
        self.assertEqual(form((1, "b"), (-1, "b"), (1, None), (-1, None)), ())
        self.assertEqual(form((1, None), (1, None)), ((2, None),))
        self.assertEqual(form((1, None), (1, "b"), (1, "a.x")), ((1, "a.x"), (1, "b"), (1, None)))
        self.assertEqual(form(), ())

    def test_tallies(self):
        self.bad("tallies", 0, [("A", 0)], [], [])
        self.bad("tallies", 1, [("a", 0), ("a.b.c", 0), ("", 0)], [], [])
        self.bad("tallies", 2, [("a", 0), ("b", 0), ("a", 1)], [], [])
        self.assertEqual(Scoring([], [], []).tallies, ())

    def test_rules(self):
        good = ("take", "b", [(1, None)])
        self.bad("rules", 0, TALLIES, [("Take", "b", [])], [])
        self.bad("rules", 1, TALLIES, [good, ("", "b", []), ("Take", "b", [])], [])
        self.bad("rules", 1, TALLIES, [good, ("take", "a", [])], [])
        self.bad("rules", 2, TALLIES, [good, ("take", "a.x", []), ("take", "b", [])], [])
        self.bad("rules", 1, TALLIES, [good, ("pay", "b", [(1, "b"), (1, "a")])], [])
        self.bad("rules", 0, TALLIES, [("pay", "b", [(1, "a"), (-1, "a")])], [])
        self.bad("rules", 0, TALLIES, [("pay", "b", [(0, "a")])], [])
        self.bad("rules", 0, [], [("pay", "b", [])], [])
        self.assertEqual(len(Scoring(TALLIES, [good, ("pay", "b", []), ("take", "a.x", [])], []).rules), 3)

    def test_score(self):
        self.bad("score", 0, TALLIES, [], [(1, "a")])
        self.bad("score", 2, TALLIES, [], [(1, "b"), (1, None), (0, "x"), (1, "y")])
        self.bad("score", 1, TALLIES, [], [(1, "b"), (1, "")])

    def test_first_invalid_part(self):
        self.bad("tallies", 0, [("A", 0)], [("A", "b", [])], [(1, "x")])
        self.bad("rules", 0, TALLIES, [("A", "b", [])], [(1, "x")])

    def test_rules_use_the_values_before_the_move(self):
        scoring = Scoring([("a", 1), ("b", 2), ("c", 3)],
                          [("turn", "a", [(1, "b")]), ("turn", "b", [(1, "a")]), ("add", "c", [(1, "a"), (2, "b"), (10, None)]),
                           ("clear", "a", [])], [(1, "c")])
        self.assertEqual(scoring.values_after((1, 2, 3), "turn"), (2, 1, 3))
        self.assertEqual(scoring.values_after(values=[1, 2, 3], move="add"), (1, 2, 15))
        self.assertEqual(scoring.values_after((5, 6, 7), "clear"), (0, 6, 7))
        self.assertEqual(scoring.values_after((5, 6, 7), "other.label"), (5, 6, 7))
        self.assertIsInstance(scoring.values_after([5, 6, 7], "other"), tuple)
        self.assertEqual(scoring.values_of([]), (1, 2, 3))
        self.assertEqual(scoring.values_of(play=("turn", "add", "nothing", "clear", "turn")), (1, 0, 14))

    def test_value_and_score(self):
        scoring = Scoring(TALLIES, [("up", "b", [(2, "b")])], [(3, "b"), (-1, "a.x"), (7, None)])
        self.assertEqual(scoring.value((10, 4)), 33)
        self.assertEqual(scoring.value(values=[0, 0]), 7)
        self.assertEqual(scoring.score([]), 12)
        play = ["up", "up", "free"]
        self.assertEqual(scoring.score(play), 21)
        self.assertEqual(scoring.score(play=tuple(play)), 21)
        self.assertEqual(play, ["up", "up", "free"])
        self.assertEqual(Scoring([], [], []).score(["m"]), 0)
        self.assertEqual(Scoring([], [], [(4, None)]).score(["m"]), 4)
        self.assertEqual(Scoring([], [], []).values_of(["m"]), ())

    def test_great_numbers(self):
        scoring = Scoring([("a", -BIG)], [("m", "a", [(BIG, "a"), (-BIG, None)])], [(BIG, "a")])
        self.assertEqual(scoring.values_after((-BIG,), "m"), (-BIG * BIG - BIG,))
        self.assertEqual(scoring.score([]), -BIG * BIG)
        self.assertEqual(Scoring([("a", 1)], [("m", "a", [(2, "a")])], [(1, "a")]).score(["m"] * 200), 2 ** 200)

    def test_a_scoring_of_the_greatest_size(self):
        tallies = [(chr(97 + k), k) for k in range(12)]
        rules = [("m" + chr(97 + k // 12), chr(97 + k % 12), [(1, chr(97 + j % 12)) for j in range(20)]) for k in range(100)]
        scoring = Scoring(tallies, rules, [(1, chr(97 + j % 12)) for j in range(20)])
        self.assertEqual(scoring.form, tuple((2 if j < 8 else 1, chr(97 + j)) for j in range(12)))
        self.assertEqual(scoring.values_after(range(12), "ma"), (66 + 28,) * 12)

    def test_what_is_passed_stays_and_is_copied(self):
        tallies, form, score = list(TALLIES), [(1, "b"), (1, None), (1, "b")], [(2, "b"), (1, "a.x")]
        rules = [("take", "b", form)]
        scoring = Scoring(tallies, rules, score)
        self.assertEqual((tallies, form, score), (TALLIES, [(1, "b"), (1, None), (1, "b")], [(2, "b"), (1, "a.x")]))
        for part in (tallies, form, score, rules):
            part.clear()
        self.assertEqual(scoring, Scoring(tuple(TALLIES), (("take", "b", ((2, "b"), (1, None))),), ((2, "b"), (1, "a.x"))))
        self.assertEqual(scoring.values_of(["take"]), (3, -2))

    def test_equality(self):
        def made(**other):
            parts = {"tallies": TALLIES, "rules": [("take", "b", [(1, "b")])], "score": [(1, "b")]}
            return Scoring(**{**parts, **other})

        self.assertIs(made() == made(score=[(0, None), (1, "b")]), True)
        self.assertIs(made() != made(), False)
        for other in [made(tallies=[("b", 1), ("a.x", -3)]), made(tallies=[("b", 1), ("a", -2)]), made(rules=[]),
                      made(rules=[("take", "b", [(2, "b")])]), made(score=[]), None, 0, "scoring"]:
            self.assertIs(made() == other, False)
            self.assertIs(made() != other, True)


if __name__ == "__main__":
    unittest.main()
