"""Point 37: greatest flows and dams."""

import random
import unittest

from playhall.flows import greatest_flow

BIG = 10 ** 40 - 1


class FlowsTest(unittest.TestCase):
    def judge(self, nodes, arcs, source, sink):
        """Judges a flow and a dam by the words of point 37 and of the interface; returns the flow's value."""
        copies = list(arcs)
        amounts, dam = greatest_flow(nodes, arcs, source, sink)
        self.assertEqual(list(arcs), copies)
        self.assertIsInstance(amounts, list)
        self.assertEqual(len(amounts), len(arcs))
        net = [0] * nodes
        for (start, end, capacity), amount in zip(arcs, amounts):
            self.assertTrue(0 <= amount <= capacity)
            net[start] += amount
            net[end] -= amount
        for node in range(nodes):
            if node not in (source, sink):
                self.assertEqual(net[node], 0)
        self.assertEqual(dam, sorted(set(dam)))
        self.assertIn(source, dam)
        self.assertNotIn(sink, dam)
        self.assertTrue(all(0 <= node < nodes for node in dam))
        out = 0
        for (start, end, capacity), amount in zip(arcs, amounts):
            if start in dam and end not in dam:
                self.assertEqual(amount, capacity)
                out += capacity
            if end in dam and start not in dam:
                self.assertEqual(amount, 0)
        self.assertEqual(net[source], out)
        return out

    def test_no_arcs_and_a_sink_that_is_not_reached(self):
        self.assertEqual(greatest_flow(2, [], 0, 1), ([], [0]))
        self.assertEqual(self.judge(4, [(0, 1, 5), (1, 2, 5), (3, 2, 4)], 0, 3), 0)
        self.assertEqual(self.judge(3, [(1, 0, 5), (2, 1, 5)], 0, 2), 0)

    def test_there_and_back_and_equal_arcs(self):
        self.assertEqual(self.judge(3, [(0, 1, 3), (1, 0, 2), (1, 2, 2), (2, 1, 7), (0, 1, 3), (1, 2, 2)], 0, 2), 4)
        self.assertEqual(self.judge(2, [(0, 1, 3)] * 5, 0, 1), 15)

    def test_into_the_source_and_out_of_the_sink(self):
        arcs = [(1, 0, 9), (0, 1, 4), (2, 1, 5), (1, 2, 6), (2, 0, 8)]
        self.assertEqual(self.judge(3, arcs, 0, 2), 4)
        self.assertEqual(self.judge(3, arcs, 2, 0), 13)

    def test_capacities(self):
        self.assertEqual(self.judge(3, [(0, 1, 0), (1, 2, 5)], 0, 2), 0)
        self.assertEqual(self.judge(3, [(0, 1, BIG), (1, 2, BIG - 1), (0, 2, BIG)], 0, 2), 2 * BIG - 1)
        # A net in which a poor choice of ways would need as many steps as there are units.
        arcs = [(0, 1, BIG), (0, 2, BIG), (1, 2, 1), (2, 1, 1), (1, 3, BIG), (2, 3, BIG)]
        self.assertEqual(self.judge(4, arcs, 0, 3), 2 * BIG)

    def test_what_must_be_led_back(self):
        arcs = [(0, 1, 1), (1, 2, 1), (2, 5, 1), (0, 3, 1), (3, 2, 1), (1, 4, 1), (4, 5, 1)]
        self.assertEqual(self.judge(6, arcs, 0, 5), 2)

    def test_random_nets(self):
        rng = random.Random(51)
        for _ in range(300):
            nodes = rng.randint(2, 7)
            arcs = [(*rng.sample(range(nodes), 2), rng.choice([0, 1, 2, 5, BIG])) for _ in range(rng.randint(0, 20))]
            source, sink = rng.sample(range(nodes), 2)
            self.judge(nodes, arcs, source, sink)

    def test_great_nets(self):
        rng = random.Random(52)
        for _ in range(3):
            arcs = [(*rng.sample(range(60), 2), rng.randint(0, BIG)) for _ in range(200)]
            self.judge(60, arcs, 0, 59)

    def test_named_tuples_and_new_lists(self):
        arcs = ((0, 1, 2), (1, 2, 1))
        amounts, dam = greatest_flow(nodes=3, arcs=arcs, source=0, sink=2)
        self.assertEqual((amounts, dam), ([1, 1], [0, 1]))
        amounts.append(1)
        dam.clear()
        self.assertEqual(greatest_flow(3, arcs, 0, 2), ([1, 1], [0, 1]))


if __name__ == "__main__":
    unittest.main()
