"""The machine: one step [29], how it begins and runs [30]."""

import random
import unittest

from chiefway.errors import OutOfSteps
from chiefway.machine import begun, run, step
from helper import GREAT, naive_worth

FORM = (((0, 1), 3), ((2, 0), 1))


class Step(unittest.TestCase):
    def check(self, row, state, told, M=7):
        rows = [("push", 0)] * 3 + [row] + [("push", 0)] * 3
        kept = (state[0], list(state[1]), list(state[2]), list(state[3]))
        answer = step(M, rows, state)
        self.assertEqual(answer, told)
        self.assertEqual(state, kept)
        self.assertEqual(rows, [("push", 0)] * 3 + [row] + [("push", 0)] * 3)
        lists = list(answer[1:]) + list(state[1:])
        for number, one in enumerate(lists):
            self.assertIs(type(one), list)
            for other in lists[:number]:
                self.assertIsNot(one, other)
        for one in answer[1:]:
            one.append(99)
        self.assertEqual(state, kept)
        self.assertEqual(step(M, rows, state)[0], told[0])

    def test_push(self):
        self.check(("push", 4), (3, [], [], []), (4, [4], [], []))
        self.check(("push", 0), (3, [5, 6], [1], [2]), (4, [5, 6, 0], [1], [2]))

    def test_take(self):
        self.check(("take", 1), (3, [6], [3, 5, 2], [1]), (4, [6, 5], [3, 5, 2], [1]))
        self.check(("take", 0), (3, [], [3], []), (4, [3], [3], []))

    def test_keep(self):
        self.check(("keep", 1), (3, [6, 4], [3, 5, 2], [1]), (4, [6], [3, 4, 2], [1]))
        self.check(("keep", 0), (3, [4], [3], []), (4, [], [4], []))

    def test_turn(self):
        self.check(("turn", 2, 3), (3, [6, 4], [1], [2]), (4, [6, 4], [1], [2]))
        self.check(("turn", 1, 6), (3, [6, 1], [], []), (4, [6, 0], [], []))
        self.check(("turn", 0, 5), (3, [6], [], []), (4, [5], [], []))
        self.check(("turn", GREAT - 1, 0), (3, [5], [], []), (4, [GREAT - 5], [], []), GREAT)

    def test_reckon_of_one(self):
        form = (((0,), 1), ((2,), 2))
        self.check(("reckon", 1, form), (3, [6, 3], [1], [2]), (4, [6, 5], [1], [2]))
        self.check(("reckon", 1, ()), (3, [6, 3], [], []), (4, [6, 0], [], []))

    def test_reckon_of_two_the_deepest_first(self):
        # The first value is 2, the second one 5: 2 * 2 + 3 * 5
        self.check(("reckon", 2, FORM), (3, [6, 2, 5], [1], [2]), (4, [6, 19 % 7], [1], [2]))
        self.check(("reckon", 2, FORM), (3, [5, 2], [], []), (4, [31 % 7], [], []))
        self.check(("reckon", 2, ()), (3, [6, 2, 5], [], []), (4, [6, 0], [], []))

    def test_unless(self):
        self.check(("unless", 6), (3, [5, 0], [1], [2]), (6, [5], [1], [2]))
        self.check(("unless", 0), (3, [0], [], []), (0, [], [], []))
        for top in range(1, 7):
            self.check(("unless", 6), (3, [0, top], [1], [2]), (4, [0], [1], [2]))

    def test_go(self):
        for goal in (0, 3, 4, 7):
            self.check(("go", goal), (3, [0], [1], [2]), (goal, [0], [1], [2]))

    def test_count(self):
        self.check(("count", 1, 9), (3, [6], [5], [4, 3]), (4, [6], [5], [4, 9]))
        self.check(("count", 0, 0), (3, [], [], [4, 3]), (4, [], [], [0, 3]))

    def test_round(self):
        self.check(("round", 1, 6), (3, [6], [5], [0, 3]), (4, [6], [5], [0, 2]))
        self.check(("round", 1, 6), (3, [6], [5], [0, 1]), (4, [6], [5], [0, 0]))
        self.check(("round", 0, 6), (3, [6], [5], [0, 3]), (6, [6], [5], [0, 3]))
        self.check(("round", 0, 0), (3, [], [], [0]), (0, [], [], [0]))

    def test_numbers_stay_on_the_wheel(self):
        chance = random.Random(91)
        for M in (3, 9, GREAT):
            for time in range(50):
                pile = [chance.randrange(M) for number in range(3)]
                a, b = chance.randrange(M), chance.randrange(M)
                told = step(M, [("turn", a, b)], (0, pile, [], []))
                self.assertEqual(told, (1, pile[:2] + [(a * pile[2] + b) % M], [], []))
                form = (((0, 2), a or 1), ((2, 1), b or 1))
                told = step(M, [("reckon", 2, form)], (0, pile, [], []))
                self.assertEqual(told, (1, pile[:1] + [naive_worth(M, form, pile[1:])], [], []))


class Begun(unittest.TestCase):
    def test_no_rows(self):
        self.assertEqual(begun([], []), (0, [], [], []))
        self.assertEqual(begun([], [3, 4]), (0, [], [3, 4], []))

    def test_neither_shelf_nor_tallies(self):
        rows = [("push", 5), ("turn", 6, 6), ("unless", 3), ("go", 4), ("reckon", 1, ())]
        self.assertEqual(begun(rows, []), (0, [], [], []))
        self.assertEqual(begun(rows, [1]), (0, [], [1], []))

    def test_values_and_places(self):
        for rows in ([("take", 2), ("keep", 0)], [("take", 0), ("keep", 2)], [("keep", 2)], [("take", 2)]):
            self.assertEqual(begun(rows, []), (0, [], [0, 0, 0], []))
            self.assertEqual(begun(rows, [5]), (0, [], [5, 0, 0], []))
            self.assertEqual(begun(rows, [5, 6, 4]), (0, [], [5, 6, 4], []))
            self.assertEqual(begun(rows, [5, 6, 4, 3]), (0, [], [5, 6, 4, 3], []))
        self.assertEqual(begun([("take", 0)], []), (0, [], [0], []))
        self.assertEqual(len(begun([("keep", 99)], [])[2]), 100)

    def test_tallies(self):
        self.assertEqual(begun([("count", 0, 9)], []), (0, [], [], [0]))
        self.assertEqual(begun([("round", 2, 1)], []), (0, [], [], [0, 0, 0]))
        self.assertEqual(begun([("count", 3, 1), ("round", 2, 9)], []), (0, [], [], [0, 0, 0, 0]))
        self.assertEqual(begun([("count", 1, 8), ("round", 2, 9)], []), (0, [], [], [0, 0, 0]))
        self.assertEqual(len(begun([("round", 99, 0)], [])[3]), 100)

    def test_the_lists_are_new(self):
        values = [1, 2]
        rows = [("take", 1)]
        one = begun(rows, values)
        other = begun(rows, values)
        lists = list(one[1:]) + list(other[1:]) + [values]
        for number, first in enumerate(lists):
            for second in lists[:number]:
                self.assertIsNot(first, second)
        for first in one[1:]:
            first.append(9)
        self.assertEqual((values, rows), ([1, 2], [("take", 1)]))
        self.assertEqual(begun(rows, values), (0, [], [1, 2], []))


# 2 to the power of what the tally counts, and then 1 more; the loop takes four steps.
POWER = [("push", 1), ("count", 0, 5), ("round", 0, 5), ("turn", 2, 0), ("go", 2), ("turn", 1, 1)]


class Run(unittest.TestCase):
    def test_by_hand(self):
        self.assertEqual(run(101, POWER, [], 1000), (33, 2 + 5 * 3 + 1 + 1))
        self.assertEqual(run(7, [("take", 1), ("take", 0), ("reckon", 2, FORM)], [4, 2], 3), (16 % 7, 3))
        rows = [("take", 0), ("unless", 4), ("push", 5), ("go", 5), ("push", 6)]
        self.assertEqual(run(7, rows, [0], 9), (6, 3))
        self.assertEqual(run(7, rows, [1], 9), (5, 4))

    def test_the_top_of_the_pile(self):
        self.assertEqual(run(7, [("push", 1), ("push", 2), ("push", 3)], [], 3), (3, 3))

    def test_no_rows(self):
        self.assertEqual(run(7, [], [1, 2], 0)[1], 0)
        self.assertEqual(run(7, [], [], 5)[1], 0)

    def test_just_as_many_steps_and_one_less(self):
        for rows, values in ((POWER, []), ([("push", 1)], []), ([("take", 0), ("turn", 2, 2)], [3])):
            number, steps = run(101, rows, values, 10 ** 6)
            self.assertEqual(run(101, rows, values, steps), (number, steps))
            self.assertEqual(run(101, rows, values, steps + 1), (number, steps))
            self.assertEqual(run(101, rows, values, 10 ** 60 - 1), (number, steps))
            for most in (steps - 1, steps // 2, 0):
                with self.assertRaises(OutOfSteps):
                    run(101, rows, values, most)

    def test_rows_that_go_round_for_ever(self):
        for rows in ([("go", 0)], [("push", 1), ("go", 0)], [("push", 0), ("unless", 0)],
                     [("push", 1), ("count", 0, 1), ("round", 0, 4), ("go", 1), ("go", 1)]):
            for most in (0, 1, 2, 3, 1000):
                with self.assertRaises(OutOfSteps):
                    run(7, rows, [], most)

    def test_rows_and_values_stay(self):
        rows = [("push", 5), ("keep", 0), ("take", 0), ("keep", 3), ("take", 3)]
        values = [1, 2]
        kept = list(rows)
        self.assertEqual(run(7, rows, values, 5), (5, 5))
        self.assertEqual(run(7, rows, values, 5), (5, 5))
        self.assertEqual((rows, values), (kept, [1, 2]))

    def test_by_steps(self):
        chance = random.Random(92)
        for time in range(300):
            rows = any_rows(chance, 7)
            values = [chance.randrange(7) for number in range(3)]
            state = begun(rows, values)
            steps = 0
            while state[0] < len(rows) and steps < 60:
                state = step(7, rows, state)
                steps += 1
            if state[0] < len(rows):
                with self.assertRaises(OutOfSteps):
                    run(7, rows, values, 60)
            else:
                self.assertEqual(run(7, rows, values, 60), (state[1][-1], steps))


def any_rows(chance, M):
    """Rows that never take more off the pile than there is: it grows from row to row, but for a keep or reckon."""
    rows = [("push", chance.randrange(M)), ("push", chance.randrange(M))]
    many = chance.randrange(1, 12)
    for row in range(many):
        goal = chance.randrange(len(rows), many + 3)
        rows.append(chance.choice((
            ("push", chance.randrange(M)), ("take", chance.randrange(4)), ("turn", chance.randrange(M), chance.randrange(M)),
            ("reckon", 1, (((2,), 3),)), ("go", goal), ("go", 0), ("count", 1, chance.randrange(4)), ("round", 1, goal),
            ("round", 0, goal))))
    return rows + [("turn", 2, 1)]


if __name__ == "__main__":
    unittest.main()
