"""The interface of linear.py."""

import random
import unittest
from fractions import Fraction
from math import gcd

from playhall.linear import balance, combination, rank_of
from tests.helpers import Checks

BIG = 10 ** 40


def plain_rank(vectors):
    rows = [[Fraction(number) for number in vector] for vector in vectors]
    rank = 0
    for column in range(len(rows[0]) if rows else 0):
        pivot = next((row for row in rows[rank:] if row[column]), None)
        if pivot is None:
            continue
        rows.remove(pivot)
        rows.insert(rank, pivot)
        rank += 1
        rows[rank:] = [[a - row[column] / pivot[column] * b for a, b in zip(row, pivot)] for row in rows[rank:]]
    return rank


def random_vectors(rng, count, width, span=3):
    made = [[rng.randint(-span, span) for _ in range(width)] for _ in range(count)]
    if count > 2 and rng.random() < 0.5:
        made[2] = [2 * a - 3 * b for a, b in zip(made[0], made[1])]
    return made


class RankTest(Checks):
    def test_small_cases(self):
        self.assertEqual(rank_of([]), 0)
        self.assertEqual(rank_of([[], []]), 0)
        self.assertEqual(rank_of([[0, 0]]), 0)
        self.assertEqual(rank_of([[0, 0], [0, 5]]), 1)
        self.assertEqual(rank_of([[1, 2], [2, 4], [3, 6]]), 1)
        self.assertEqual(rank_of(vectors=((1, 2), (2, 5), (3, 6))), 2)
        self.assertEqual(rank_of([[0, 1], [1, 0], [1, 1]]), 2)

    def test_great_numbers(self):
        self.assertEqual(rank_of([[BIG, BIG + 1], [BIG + 1, BIG + 2]]), 2)
        self.assertEqual(rank_of([[BIG, BIG * BIG], [1, BIG]]), 1)

    def test_random_vectors(self):
        rng = random.Random(91)
        for _ in range(200):
            vectors = random_vectors(rng, rng.randint(0, 5), rng.randint(1, 5))
            kept = [list(vector) for vector in vectors]
            self.assertEqual(rank_of(vectors), plain_rank(vectors))
            self.assertEqual(vectors, kept)


class CombinationTest(Checks):
    def check(self, vectors, goal):
        """Checks the result against the words of the interface."""
        made = combination(vectors, goal)
        if plain_rank([*vectors, goal]) > plain_rank(vectors):
            self.assertIsNone(made)
            return
        self.assertIsInstance(made, tuple)
        factors, divisor = made
        self.assertIsInstance(factors, list)
        self.assertEqual(len(factors), len(vectors))
        self.assertGreaterEqual(divisor, 1)
        self.assertEqual(gcd(divisor, *factors), 1)
        sums = [sum(f * vector[k] for f, vector in zip(factors, vectors)) for k in range(len(goal))]
        self.assertEqual(sums, [number * divisor for number in goal])

    def test_small_cases(self):
        self.assertEqual(combination([], []), ([], 1))
        self.assertEqual(combination([], [0, 0]), ([], 1))
        self.assertIsNone(combination([], [0, 1]))
        self.assertEqual(combination([[3, 0], [0, 5]], [6, 5]), ([2, 1], 1))
        self.assertEqual(combination(vectors=((3, 0), (0, 5)), goal=(1, 1)), ([5, 3], 15))
        self.assertEqual(combination([[-2]], [3]), ([-3], 2))
        self.assertEqual(combination([[4]], [6]), ([3], 2))
        self.assertEqual(combination([[2], [0]], [0])[1], 1)
        self.assertIsNone(combination([[1, 1]], [1, 2]))
        self.check([[], []], [])
        self.check([[0, 0]], [0, 0])

    def test_great_numbers(self):
        self.check([[BIG, 1], [1, BIG]], [3, 7])
        self.check([[BIG, BIG - 1], [BIG + 1, BIG]], [BIG * BIG, 5])
        self.check([[BIG, 2 * BIG]], [BIG + 1, 2 * BIG + 2])
        self.check([[BIG, 2 * BIG]], [BIG + 1, 2 * BIG + 3])

    def test_random_vectors(self):
        rng = random.Random(92)
        for _ in range(400):
            width = rng.randint(1, 5)
            vectors = random_vectors(rng, rng.randint(0, 5), width)
            if vectors and rng.random() < 0.6:
                times = [rng.randint(-2, 2) for _ in vectors]
                goal = [sum(t * vector[k] for t, vector in zip(times, vectors)) for k in range(width)]
            else:
                goal = [rng.randint(-4, 4) for _ in range(width)]
            kept = [list(vector) for vector in vectors], list(goal)
            self.check(vectors, goal)
            self.assertEqual((vectors, goal), kept)


class BalanceTest(Checks):
    def test_small_cases(self):
        self.assertEqual(balance([[0]]), [1])
        self.assertEqual(balance([[1, -1], [-1, 1]]), [1, 1])
        self.assertEqual(balance(matrix=((2, 4), (1, 2))), [2, -1])
        self.assertEqual(balance([[0, 3], [0, 0]]), [1, 0])
        self.assertEqual(balance([[5, 0], [0, 0]]), [0, 1])
        self.assertEqual(balance([[-2, 3], [0, 0]]), [3, 2])
        self.assertEqual(balance([[0, 0, 0], [0, 6, 4], [1, 0, 0]]), [0, 2, -3])
        self.assertEqual(balance([[BIG, BIG + 1], [0, 0]]), [BIG + 1, -BIG])

    def test_random_matrices(self):
        rng = random.Random(93)
        done = 0
        while done < 150:
            size = rng.randint(2, 5)
            matrix = [[rng.randint(-4, 4) for _ in range(size)] for _ in range(size)]
            matrix[rng.randrange(size)] = [0] * size
            if plain_rank(matrix) != size - 1:
                continue
            done += 1
            kept = [list(row) for row in matrix]
            vector = balance(matrix)
            self.assertEqual(matrix, kept)
            self.assertEqual([sum(a * b for a, b in zip(row, vector)) for row in matrix], [0] * size)
            self.assertEqual(gcd(*vector), 1)
            self.assertGreater([number for number in vector if number][0], 0)


if __name__ == "__main__":
    unittest.main()
