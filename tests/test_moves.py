"""Point 6: moves."""

import unittest

from playhall.errors import BadMove
from playhall.moves import Move
from tests.helpers import Checks


class MoveTest(Checks):
    def bad(self, part, *args, **named):
        self.refused(BadMove, {"part": part}, Move, *args, **named)

    def test_attributes(self):
        move = Move("take.one", "ann", [("b", 1, None), ("a", None, 3)], [("d", -2), ("c", 4)], sign="s.t", foul=True)
        self.assertEqual(vars(move), {
            "name": "take.one", "player": "ann", "needs": (("a", None, 3), ("b", 1, None)),
            "changes": (("c", 4), ("d", -2)), "sign": "s.t", "foul": True})
        plain = Move(name="a", player="b", needs=(), changes=())
        self.assertEqual(vars(plain), {
            "name": "a", "player": "b", "needs": (), "changes": (), "sign": None, "foul": False})

    def test_sign_and_foul_are_passed_by_name_only(self):
        with self.assertRaises(TypeError):
            Move("a", "b", [], [], "s")

    def test_needs_are_merged(self):
        def merged(*needs):
            return Move("m", "p", needs, []).needs

        self.assertEqual(merged(("a", 1, None), ("a", 3, None), ("a", 2, None)), (("a", 3, None),))
        self.assertEqual(merged(("a", None, 1), ("a", None, 3), ("a", None, 0)), (("a", None, 0),))
        self.assertEqual(merged(("a", 1, None), ("a", None, 3)), (("a", 1, 3),))
        self.assertEqual(merged(("a", 0, None), ("a", None, 0)), (("a", 0, 0),))
        self.assertEqual(merged(("a", 5, 9), ("b", 1, 1), ("a", 0, 3)), (("a", 5, 3), ("b", 1, 1)))
        self.assertEqual(merged(("b", 7, 2)), (("b", 7, 2),))
        self.assertEqual(merged(("b", 1, 2), ("a.z", 1, 2), ("a", 1, 2)), (("a", 1, 2), ("a.z", 1, 2), ("b", 1, 2)))

    def test_changes_are_added_up(self):
        def merged(*changes):
            return Move("m", "p", [], changes).changes

        self.assertEqual(merged(("b", 1), ("a", -1), ("b", 10 ** 40)), (("a", -1), ("b", 10 ** 40 + 1)))
        self.assertEqual(merged(("b", 2), ("a", 0), ("b", -2)), ())
        self.assertEqual(merged(("b", 2), ("b", -2), ("b", 1)), (("b", 1),))

    def test_name_and_player_are_labels(self):
        for label in ["", "A", "a.b.c", "abcdefghijklm", "a b"]:
            self.bad("name", label, "ann", [], [])
            self.bad("player", "take", label, [], [])

    def test_needs_are_judged(self):
        for need in [("", 0, 1), ("A", 0, 1), ("a", -1, 1), ("a", 0, -1), ("a", -1, None), ("a", None, -1),
                     ("a", None, None)]:
            self.bad("needs", "take", "ann", [need], [])
            self.bad("needs", "take", "ann", [("b", 0, 1), need], [])
        for need in [("a", 0, 0), ("a", 0, None), ("a", None, 0), ("a", 10 ** 40, None)]:
            self.assertEqual(Move("m", "p", [need], []).needs, (need,))

    def test_needs_are_judged_before_they_are_merged(self):
        self.bad("needs", "take", "ann", [("a", -1, 3), ("a", 1, 3)], [])
        self.bad("needs", "take", "ann", [("a", 1, 3), ("a", None, None)], [])

    def test_changes_are_judged_before_they_are_merged(self):
        self.bad("changes", "take", "ann", [], [("a", 1), ("B", 1)])
        self.bad("changes", "take", "ann", [], [("", 1), ("", -1)])
        self.bad("changes", "take", "ann", [], [("a.b.c", 0)])

    def test_sign_is_none_or_a_label(self):
        for sign in ["", "A", "a.b.c", "a b"]:
            self.bad("sign", "take", "ann", [], [], sign=sign)
        self.assertIsNone(Move("a", "b", [], [], sign=None).sign)

    def test_first_invalid_part(self):
        need, change = [("", 0, 1)], [("", 1)]
        self.bad("name", "", "", need, change, sign="")
        self.bad("player", "a", "", need, change, sign="")
        self.bad("needs", "a", "b", need, change, sign="")
        self.bad("changes", "a", "b", [], change, sign="")
        self.bad("sign", "a", "b", [], [], sign="")

    def test_what_is_passed_stays_and_is_copied(self):
        needs, changes = [("b", 1, None), ("a", 1, 2), ("b", 2, None)], [("b", 1), ("a", 1), ("b", 2)]
        move = Move("m", "p", needs, changes)
        self.assertEqual(needs, [("b", 1, None), ("a", 1, 2), ("b", 2, None)])
        self.assertEqual(changes, [("b", 1), ("a", 1), ("b", 2)])
        needs.clear()
        changes.clear()
        self.assertEqual((move.needs, move.changes), ((("a", 1, 2), ("b", 2, None)), (("a", 1), ("b", 3))))
        self.assertEqual(Move("m", "p", (("a", 1, 2),), (("a", 1),)).changes, (("a", 1),))

    def test_equality(self):
        def made(**other):
            parts = {"name": "m", "player": "p", "needs": [("a", 1, 2)], "changes": [("a", 1)], "sign": "s",
                     "foul": True}
            return Move(**{**parts, **other})

        self.assertIs(made() == made(), True)
        self.assertIs(made() == made(needs=[("a", 1, None), ("a", 0, 2)]), True)
        self.assertIs(made() != made(), False)
        for other in [made(name="n"), made(player="q"), made(needs=[]), made(changes=[]), made(sign=None),
                      made(foul=False), None, "m", 0]:
            self.assertIs(made() == other, False)
            self.assertIs(made() != other, True)


if __name__ == "__main__":
    unittest.main()
