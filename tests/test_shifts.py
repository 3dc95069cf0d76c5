"""Points 4 and 5: shifts and their operators."""

import random
import unittest

from playhall.errors import Blocked
from playhall.shifts import Shift
from tests.helpers import Checks

BIG = 10 ** 40


class ShiftTest(Checks):
    def test_example_of_the_interface(self):
        take = Shift([("bank", 0, 4, 1), ("stones", 1, 5, -1)])
        self.assertEqual([(take * 3).rows, (take + ~take).rows], [
            (("bank", 0, 2, 3), ("stones", 3, 5, -3)),
            (("bank", 0, 4, 0), ("stones", 1, 5, 0)),
        ])

    def test_rows_are_a_tuple_in_ascending_order(self):
        rows = [("b", 1, 2, 3), ("a.z", 0, 0, 0), ("a", 4, 5, -6), ("aa", 9, 9, 9)]
        self.assertEqual(Shift(rows).rows, (("a", 4, 5, -6), ("a.z", 0, 0, 0), ("aa", 9, 9, 9), ("b", 1, 2, 3)))
        self.assertEqual(Shift(tuple(rows)).rows, Shift(rows).rows)
        self.assertEqual(Shift(rows=[]).rows, ())
        many = [(chr(97 + k // 20) + chr(97 + k % 20), 0, k, -k) for k in range(60)]
        self.assertEqual(Shift(many[::-1]).rows, tuple(many))

    def test_what_is_passed_is_copied_and_stays(self):
        rows = [("b", 1, 2, 3), ("a", 0, 1, 1)]
        shift = Shift(rows)
        self.assertEqual(rows, [("b", 1, 2, 3), ("a", 0, 1, 1)])
        rows.append(("c", 0, 0, 0))
        rows[0] = ("b", 0, 0, 0)
        self.assertEqual(shift.rows, (("a", 0, 1, 1), ("b", 1, 2, 3)))

    def test_never(self):
        self.assertIs(Shift([]).never, False)
        self.assertIs(Shift([("a", 3, 3, 1)]).never, False)
        self.assertIs(Shift([("a", 4, 3, 1)]).never, True)
        self.assertIs(Shift([("a", 0, 3, 1), ("b", 1, 0, 0)]).never, True)

    def test_sum_keeps_rows_that_one_side_has(self):
        first = Shift([("a", 0, 4, 2), ("c", 1, 1, 0)])
        second = Shift([("b", 3, 1, 5), ("d", 0, 0, 0)])
        expected = (("a", 0, 4, 2), ("b", 3, 1, 5), ("c", 1, 1, 0), ("d", 0, 0, 0))
        self.assertEqual((first + second).rows, expected)
        self.assertEqual((second + first).rows, expected)
        self.assertEqual((first + Shift([])).rows, first.rows)
        self.assertEqual((Shift([]) + first).rows, first.rows)
        self.assertEqual(first.rows, (("a", 0, 4, 2), ("c", 1, 1, 0)))

    def test_sum_of_rows_of_the_same_counter(self):
        def joined(one, other):
            return (Shift([("a", *one)]) + Shift([("a", *other)])).rows

        self.assertEqual(joined((0, 9, 2), (5, 8, -1)), (("a", 3, 6, 1),))
        self.assertEqual(joined((4, 5, 2), (5, 8, -1)), (("a", 4, 5, 1),))
        self.assertEqual(joined((0, 9, -2), (0, 9, 2)), (("a", 2, 9, 0),))
        self.assertEqual(joined((0, 3, 1), (9, 9, 1)), (("a", 8, 3, 2),))

    def test_inverse(self):
        shift = Shift([("a", 1, 4, 3), ("b", 5, 9, -5), ("c", 2, 1, 0)])
        self.assertEqual((~shift).rows, (("a", 4, 7, -3), ("b", 0, 4, 5), ("c", 2, 1, 0)))
        self.assertEqual((~~shift).rows, shift.rows)

    def test_times(self):
        shift = Shift([("a", 1, 9, 2), ("b", 1, 9, -2), ("c", 1, 9, 0)])
        self.assertEqual((shift * 0).rows, ())
        self.assertEqual((shift * 1).rows, shift.rows)
        self.assertEqual((shift * 4).rows, (("a", 1, 3, 8), ("b", 7, 9, -8), ("c", 1, 9, 0)))
        self.assertEqual((shift * BIG).rows, (
            ("a", 1, 9 - 2 * (BIG - 1), 2 * BIG), ("b", 1 + 2 * (BIG - 1), 9, -2 * BIG), ("c", 1, 9, 0)))
        self.assertIs((shift * BIG).never, True)

    def test_times_is_a_sum(self):
        rng = random.Random(4)
        for _ in range(50):
            shift = Shift([(name, rng.randint(-3, 5), rng.randint(0, 9), rng.randint(-3, 3)) for name in "abc"])
            total = Shift([])
            for times in range(6):
                self.assertEqual((shift * times).rows, total.rows)
                total = total + shift

    def test_a_sum_can_be_made_where_its_parts_can(self):
        rng = random.Random(5)
        for _ in range(40):
            parts = [Shift([(name, rng.randint(0, 2), rng.randint(2, 5), rng.randint(-2, 2)) for name in names])
                     for names in ("ab", "b", "ab")]
            total = Shift.sum_of(parts)
            for a in range(-1, 8):
                for b in range(-1, 8):
                    values = {"a": a, "b": b}
                    try:
                        for part in parts:
                            values = part.applied(values)
                    except Blocked:
                        values = None
                    whole = None if total.gap({"a": a, "b": b}) else total.applied({"a": a, "b": b})
                    self.assertEqual(whole, values)

    def test_operators_are_new_shifts(self):
        shift = Shift([("a", 0, 1, 1)])
        for made in (shift + shift, ~shift, shift * 1, shift * 0, Shift.sum_of([shift])):
            self.assertIsNot(made, shift)
            self.assertIsInstance(made, Shift)
        self.assertEqual(shift.rows, (("a", 0, 1, 1),))

    def test_operators_take_nothing_else(self):
        shift = Shift([("a", 0, 1, 1)])
        for other in (1, None, (("a", 0, 1, 1),)):
            with self.assertRaises(TypeError):
                shift + other
        for other in (shift, None, "a"):
            with self.assertRaises(TypeError):
                shift * other

    def test_equality(self):
        shift = Shift([("a", 0, 1, 1), ("b", 0, 1, 1)])
        same = Shift([("b", 0, 1, 1), ("a", 0, 1, 1)])
        self.assertIs(shift == same, True)
        self.assertIs(shift != same, False)
        for other in (Shift([("a", 0, 1, 1)]), Shift([("a", 0, 1, 1), ("b", 0, 1, 2)]), Shift([]),
                      shift.rows, list(shift.rows), None, 0, "a"):
            self.assertIs(shift == other, False, other)
            self.assertIs(shift != other, True, other)

    def test_sum_of(self):
        self.assertEqual(Shift.sum_of([]).rows, ())
        shifts = [Shift([("a", 0, 9, 2)]), Shift([("a", 0, 3, 1)]), Shift([("b", 0, 9, 1)])]
        self.assertEqual(Shift.sum_of(shifts).rows, (("a", 0, 1, 3), ("b", 0, 9, 1)))
        self.assertEqual(Shift.sum_of(shifts=tuple(shifts)).rows, (("a", 0, 1, 3), ("b", 0, 9, 1)))
        self.assertEqual(len(shifts), 3)
        self.assertIsInstance(vars(Shift)["sum_of"], staticmethod)

    def test_gap(self):
        shift = Shift([("b", 1, 3, 1), ("a", 2, 2, 0)])
        self.assertIsNone(shift.gap({"a": 2, "b": 1, "other": 99}))
        self.assertIsNone(shift.gap({"a": 2, "b": 3}))
        self.assertEqual(shift.gap({"a": 2, "b": 0}), "b")
        self.assertEqual(shift.gap({"a": 2, "b": 4}), "b")
        self.assertEqual(shift.gap({"b": 0, "a": 1}), "a")
        self.assertEqual(shift.gap(values={"b": 1, "a": 3}), "a")
        self.assertIsNone(Shift([]).gap({}))

    def test_applied(self):
        shift = Shift([("b", 1, 3, 1), ("a", 2, 2, -5)])
        values = {"b": 3, "c": 7, "a": 2}
        changed = shift.applied(values)
        self.assertEqual(changed, {"b": 4, "c": 7, "a": -3})
        self.assertEqual(values, {"b": 3, "c": 7, "a": 2})
        self.assertIsNot(Shift([]).applied(values), values)
        self.assertEqual(Shift([]).applied(values), values)
        self.refused(Blocked, {"counter": "b"}, shift.applied, {"a": 2, "b": 4})
        self.refused(Blocked, {"counter": "a"}, shift.applied, {"a": 3, "b": 4})
        self.assertEqual(shift.rows, (("a", 2, 2, -5), ("b", 1, 3, 1)))

    def test_great_numbers(self):
        shift = Shift([("a", 0, BIG, BIG - 1)])
        self.assertEqual(shift.applied({"a": BIG}), {"a": 2 * BIG - 1})
        self.assertEqual(shift.gap({"a": BIG + 1}), "a")


if __name__ == "__main__":
    unittest.main()
