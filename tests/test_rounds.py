"""Point 53: rounds and turns."""

import random
import unittest

from playhall.askerrors import BadAnswer, BadTurn
from playhall.deciding import shortest_tree
from playhall.rounds import FIRST, PATIENCE, Round, Turn, turned
from playhall.ties import floor
from playhall.judging import box_at
from playhall.trees import Tree
from tests.helpers import Checks, chain_form, plain_rule, random_form, random_rule

END = ("end", 0)
# Party 1 is asked, then party 0 or nobody, then party 2.
FORM = ("ask", 1, (
    ((0, 3), ("ask", 0, (((0,), ("end", 5)), ((1,), ("end", 6)), ((2,), ("ask", 2, (((0,), ("end", 7)), ((1,), ("end", 8)))))))),
    ((1, 2), ("end", 9))))


def state(run):
    """All that a round shows."""
    return (run.path, run.history, run.silences, run.party, run.cells, run.outcome)


def at(tree, path):
    form = tree.form
    for branch in path:
        form = form[2][branch][1]
    return form


class PlainRound:
    """A round by the words of point 53: answers and silences one after another."""

    def __init__(self, tree, patience, default):
        self.tree, self.patience, self.default = tree, patience, default
        self.path, self.history, self.silences = (), (), 0

    def form(self):
        return at(self.tree, self.path)

    def state(self):
        form = self.form()
        if form[0] == "end":
            return (self.path, self.history, 0, None, (), form[1])
        return (self.path, self.history, self.silences, form[1], tuple(cell for cell, _ in form[2]), None)

    def go(self, branch, said):
        self.history = (*self.history, (self.form()[1], branch, said))
        self.path = (*self.path, branch)
        self.silences = 0

    def say(self, party, branch):
        form = self.form()
        if form[0] == "end" or form[1] != party or branch not in range(len(form[2])):
            return False
        self.go(branch, True)
        return True

    def wait(self):
        form = self.form()
        if form[0] == "end":
            return None
        self.silences += 1
        if self.silences == self.patience:
            self.go(self.default if self.default < len(form[2]) else len(form[2]) - 1, False)
            return True
        return False


class RoundTest(Checks):
    def test_constants(self):
        self.assertEqual((PATIENCE, FIRST), (3, 0))

    def test_a_new_round(self):
        self.assertEqual(state(Round(Tree(FORM))), ((), (), 0, 1, ((0, 3), (1, 2)), None))
        self.assertEqual(state(Round(tree=Tree(FORM), patience=1, default=7)), ((), (), 0, 1, ((0, 3), (1, 2)), None))
        self.assertEqual(state(Round(Tree(("end", 4)))), ((), (), 0, None, (), 4))

    def test_attributes_are_set_when_the_round_is_made(self):
        for name in ("path", "history", "silences", "party", "cells", "outcome"):
            self.assertTrue(hasattr(Round(Tree(FORM)), name))

    def test_answers(self):
        run = Round(Tree(FORM))
        self.assertIsNone(run.say(1, 0))
        self.assertEqual(state(run), ((0,), ((1, 0, True),), 0, 0, ((0,), (1,), (2,)), None))
        self.assertIsNone(run.say(party=0, branch=2))
        self.assertEqual(state(run), ((0, 2), ((1, 0, True), (0, 2, True)), 0, 2, ((0,), (1,)), None))
        self.assertEqual(run.say(2, 1), 8)
        self.assertEqual(state(run), ((0, 2, 1), ((1, 0, True), (0, 2, True), (2, 1, True)), 0, None, (), 8))

    def test_refused_answers(self):
        run = Round(Tree(FORM))
        run.wait()
        for path, answer in (((), None), ((0,), (1, 0)), ((0, 2), (0, 2))):
            if answer is not None:
                run.say(*answer)
                run.wait()
            before = state(run)
            for party in range(4):
                for branch in (-2, -1, 0, 1, 2, 3, 4, 10 ** 9):
                    if party != run.party or branch not in range(len(run.cells)):
                        self.refused(BadAnswer, {"path": path}, run.say, party, branch)
            self.assertEqual(state(run), before)
        self.assertEqual(run.say(2, 0), 7)
        before = state(run)
        for party in (0, 1, 2, None):
            self.refused(BadAnswer, {"path": (0, 2, 0)}, run.say, party, 0)
        self.refused(BadAnswer, {"path": (0, 2, 0)}, run.wait)
        self.assertEqual(state(run), before)

    def test_an_end_alone(self):
        run = Round(Tree(("end", 4)), patience=1)
        self.refused(BadAnswer, {"path": ()}, run.say, 0, 0)
        self.refused(BadAnswer, {"path": ()}, run.wait)
        self.refused(BadAnswer, {"path": ()}, run.honest, 0)
        self.assertEqual(run.take([]), 4)
        self.refused(BadTurn, {"index": 0}, run.take, [None])
        self.refused(BadTurn, {"index": 0}, run.take, [(0, 0)])
        self.assertEqual(state(run), ((), (), 0, None, (), 4))

    def test_silences(self):
        run = Round(Tree(FORM))
        for silences in (1, 2):
            self.assertIs(run.wait(), False)
            self.assertEqual(state(run), ((), (), silences, 1, ((0, 3), (1, 2)), None))
        self.assertIs(run.wait(), True)
        self.assertEqual(state(run), ((0,), ((1, 0, False),), 0, 0, ((0,), (1,), (2,)), None))
        # Silences are counted anew at each question.
        run.wait()
        run.wait()
        run.say(0, 2)
        self.assertEqual(run.silences, 0)
        self.assertEqual([run.wait(), run.wait(), run.silences], [False, False, 2])
        self.assertIs(run.wait(), True)
        self.assertEqual(state(run), ((0, 2, 0), ((1, 0, False), (0, 2, True), (2, 0, False)), 0, None, (), 7))

    def test_the_default_branch_and_the_last_one(self):
        for default, outcome in ((0, 5), (1, 9), (2, 9), (10 ** 9, 9)):
            run = Round(Tree(FORM), patience=1, default=default)
            while run.outcome is None:
                self.assertIs(run.wait(), True)
            self.assertEqual(run.outcome, outcome)
        inner = Tree(("ask", 0, [([0], ("ask", 1, [([0], ("end", 1)), ([1], ("end", 2)), ([2], ("end", 3))])), ([1], END)]))
        for default, history in ((0, ((1, 0, False),)), (1, ((1, 1, False),)), (2, ((1, 2, False),)), (3, ((1, 2, False),))):
            run = Round(inner, patience=2, default=default)
            run.say(0, 0)
            self.assertEqual((run.wait(), run.wait(), run.history[1:], run.outcome), (False, True, history, history[0][1] + 1))

    def test_random_rounds(self):
        rng = random.Random(221)
        for _ in range(200):
            rule = random_rule(rng, parties=3, hands=4)
            tree = Tree(random_form(rng, rule, rule.full))
            patience, default = rng.randint(1, 4), rng.randint(0, 3)
            run, plain = Round(tree, patience=patience, default=default), PlainRound(tree, patience, default)
            for _ in range(15):
                if rng.random() < 0.5:
                    expected = plain.wait()
                    if expected is None:
                        self.refused(BadAnswer, {"path": run.path}, run.wait)
                    else:
                        self.assertIs(run.wait(), expected)
                else:
                    party = run.party if run.party is not None and rng.random() < 0.8 else rng.randrange(3)
                    branch = rng.randint(-1, 3)
                    if plain.say(party, branch):
                        self.assertEqual(run.say(party, branch), plain.state()[5])
                    else:
                        self.refused(BadAnswer, {"path": run.path}, run.say, party, branch)
                self.assertEqual(state(run), plain.state())

    def test_honest(self):
        run = Round(Tree(FORM))
        self.assertEqual([run.honest(hand) for hand in (0, 1, 2, 3)], [0, 1, 1, 0])
        self.refused(BadAnswer, {"path": ()}, run.honest, 4)
        run.say(1, 0)
        self.assertEqual([run.honest(hand=hand) for hand in (0, 1, 2)], [0, 1, 2])
        self.refused(BadAnswer, {"path": (0,)}, run.honest, 3)
        run.say(0, 0)
        for hand in (0, 1):
            self.refused(BadAnswer, {"path": (0, 0)}, run.honest, hand)
        self.assertEqual(state(run), ((0, 0), ((1, 0, True), (0, 0, True)), 0, None, (), 5))

    def test_honest_rounds_lead_to_the_outcome_of_the_tree(self):
        rng = random.Random(222)
        for _ in range(60):
            rule = random_rule(rng, parties=3, hands=4)
            tree = Tree(random_form(rng, rule, rule.full))
            for combination in rule.full:
                run = Round(tree)
                while run.outcome is None:
                    run.say(run.party, run.honest(combination[run.party]))
                self.assertEqual(run.outcome, tree(combination))

    def test_in_a_plain_tree_an_honest_party_gets_its_floor(self):
        rng = random.Random(223)
        for _ in range(40):
            rule = plain_rule(rng, [3, 4, 2], 8)
            tree = shortest_tree(rule)
            party = rng.randrange(3)
            hand = rng.randrange(rule.sizes[party])
            run = Round(tree)
            floors = [-1]
            while run.outcome is None:
                if run.party == party:
                    floors.append(floor(rule, box_at(rule, tree, run.path), party, hand))
                    run.say(party, run.honest(hand))
                else:
                    run.say(run.party, rng.randrange(len(run.cells)))
            self.assertGreaterEqual(rule.worth(party, hand, run.outcome), max(floors))

    def test_a_hundred_questions(self):
        run = Round(Tree(chain_form(100)), patience=1, default=1)
        for asked in range(100):
            self.assertEqual((run.path, run.honest(100)), ((1,) * asked, 1))
            run.wait()
        self.assertEqual((run.outcome, len(run.history)), (100, 100))

    def test_what_is_returned_is_a_tuple(self):
        run = Round(Tree(["ask", 0, [[[1, 0], ["end", 0]], [[2], ["end", 1]]]]))
        self.assertEqual(run.cells, ((0, 1), (2,)))
        run.say(0, 1)
        for found in (run.path, run.history, run.cells):
            self.assertIsInstance(found, tuple)

    def test_rounds_are_equal_only_to_themselves(self):
        tree = Tree(FORM)
        run = Round(tree)
        self.assertEqual((run == run, run == Round(tree)), (True, False))

    def test_two_rounds_of_one_tree(self):
        tree = Tree(FORM)
        one, other = Round(tree), Round(tree)
        one.say(1, 1)
        self.assertEqual(state(other), state(Round(tree)))


class TakeTest(Checks):
    def test_turns(self):
        run = Round(Tree(FORM))
        self.assertIsNone(run.take([]))
        self.assertEqual(state(run), state(Round(Tree(FORM))))
        self.assertIsNone(run.take([(1, 0), None]))
        self.assertEqual(state(run), ((0,), ((1, 0, True),), 1, 0, ((0,), (1,), (2,)), None))
        self.assertIsNone(run.take(answers=(None,)))
        self.assertEqual(run.silences, 2)
        self.assertEqual(run.take([None]), 5)
        self.assertEqual(run.history, ((1, 0, True), (0, 0, False)))
        run = Round(Tree(FORM))
        self.assertEqual(run.take([None, (1, 0), None, None, (0, 2), (2, 1)]), 8)
        self.assertEqual(run.take([]), 8)
        self.assertEqual(run.history, ((1, 0, True), (0, 2, True), (2, 1, True)))

    def test_refused_turns(self):
        run = Round(Tree(FORM), patience=2)
        run.take([(1, 0), None])
        before = state(run)
        for index, answers, path in (
                (0, [(1, 0)], (0,)), (0, [(0, 3), (2, 0)], (0,)), (0, [(0, -1)], (0,)), (1, [(0, 2), (0, 0)], (0, 2)),
                (1, [None, (0, 0)], (0, 0)), (2, [(0, 2), None, (2, 2), (2, 1)], (0, 2)),
                (3, [(0, 2), None, None, None], (0, 2, 0)), (2, [(0, 2), (2, 0), (2, 0)], (0, 2, 0)),
                (2, [(0, 2), (2, 0), None], (0, 2, 0))):
            kept = list(answers)
            error = self.refused(BadTurn, {"index": index}, run.take, answers)
            self.assertIs(error.__cause__.__class__, BadAnswer)
            self.assertEqual(vars(error.__cause__), {"path": path})
            self.assertEqual(state(run), before)
            self.assertEqual(answers, kept)
        self.assertEqual(run.take([None]), 5)

    def test_random_turns(self):
        rng = random.Random(224)
        refused = 0
        for _ in range(200):
            rule = random_rule(rng, parties=2, hands=4)
            tree = Tree(random_form(rng, rule, rule.full))
            run, plain = Round(tree, patience=2, default=1), PlainRound(tree, 2, 1)
            for _ in range(4):
                answers = [rng.choice([None, (rng.randrange(2), rng.randrange(2))]) for _ in range(rng.randint(0, 3))]
                kept = (plain.path, plain.history, plain.silences)
                bad = None
                for index, answer in enumerate(answers):
                    if (plain.wait() is None) if answer is None else not plain.say(*answer):
                        bad = index
                        break
                if bad is None:
                    self.assertEqual(run.take(answers), plain.state()[5])
                else:
                    refused += 1
                    plain.path, plain.history, plain.silences = kept
                    self.refused(BadTurn, {"index": bad}, run.take, answers)
                self.assertEqual(state(run), plain.state())
        self.assertGreater(refused, 100)


class TurnTest(Checks):
    def setUp(self):
        self.run_of = Round(Tree(FORM))
        self.run_of.take([(1, 0), None])

    def test_without_an_error_the_round_goes_on(self):
        with Turn(self.run_of) as held:
            self.assertIs(held, self.run_of)
            held.say(0, 2)
            held.wait()
        self.assertEqual(state(self.run_of), ((0, 2), ((1, 0, True), (0, 2, True)), 1, 2, ((0,), (1,)), None))

    def test_an_error_that_leaves_the_block_goes_on(self):
        before = state(self.run_of)
        for error in (ValueError("own"), KeyboardInterrupt(), KeyError("k"), BadAnswer(())):
            for answers in ([], [None], [(0, 2)], [(0, 2), (2, 1)]):
                with self.assertRaises(error.__class__) as caught:
                    with Turn(run=self.run_of) as held:
                        held.take(answers)
                        raise error
                self.assertIs(caught.exception, error)
                self.assertEqual(state(self.run_of), before)
        self.assertIs(self.run_of.wait(), False)
        self.assertIs(self.run_of.wait(), True)
        self.assertEqual(self.run_of.outcome, 5)

    def test_an_error_of_the_round_itself(self):
        before = state(self.run_of)
        with self.assertRaises(BadAnswer):
            with Turn(self.run_of):
                self.run_of.say(0, 0)
                self.run_of.wait()
        self.assertEqual(state(self.run_of), before)
        self.assertEqual(self.run_of.honest(2), 2)
        self.assertEqual(self.run_of.take([(0, 2), (2, 0)]), 7)

    def test_an_error_that_is_caught_within_the_block(self):
        with Turn(self.run_of) as held:
            held.say(0, 2)
            with self.assertRaises(BadAnswer):
                held.say(0, 2)
        self.assertEqual(self.run_of.path, (0, 2))

    def test_nested_blocks(self):
        before = state(self.run_of)
        with Turn(self.run_of) as held:
            held.say(0, 2)
            middle = state(held)
            with self.assertRaises(KeyError):
                with Turn(held) as inner:
                    inner.say(2, 0)
                    raise KeyError
            self.assertEqual(state(held), middle)
        self.assertEqual(state(self.run_of), middle)
        self.run_of = Round(Tree(FORM))
        self.run_of.take([(1, 0), None])
        with self.assertRaises(KeyError):
            with Turn(self.run_of) as held:
                with Turn(held) as inner:
                    inner.say(0, 2)
                inner.say(2, 1)
                raise KeyError
        self.assertEqual(state(self.run_of), before)

    def test_the_same_turn_several_times(self):
        turn = Turn(self.run_of)
        with turn:
            self.run_of.say(0, 2)
        middle = state(self.run_of)
        with self.assertRaises(KeyError):
            with turn:
                with turn:
                    self.run_of.wait()
                self.run_of.say(2, 0)
                raise KeyError
        self.assertEqual(state(self.run_of), middle)

    def test_turned(self):
        seen = []

        def deed(held):
            seen.append(held)
            return held.say(0, 1), "more"

        self.assertEqual(turned(self.run_of, deed), (6, "more"))
        self.assertIs(seen[0], self.run_of)
        self.assertEqual(self.run_of.outcome, 6)
        self.assertIsNone(turned(run=self.run_of, deed=lambda held: None))

    def test_turned_with_an_error(self):
        before = state(self.run_of)

        def deed(held):
            turned(held, lambda inner: inner.say(0, 2))
            held.say(0, 0)

        self.refused(BadAnswer, {"path": (0, 2)}, turned, self.run_of, deed)
        self.assertEqual(state(self.run_of), before)


if __name__ == "__main__":
    unittest.main()
