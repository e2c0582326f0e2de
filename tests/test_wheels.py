"""Whole numbers [2], wheels [4] and turns [5]."""

import unittest

from chiefway.errors import NoWheel
from chiefway.wheels import is_whole, on, then, turned, wheel

GREAT = 10 ** 60 - 1
WHEELS = (3, 5, 9, 15, 101, GREAT)
SIXTY = int("7" * 60)
NUMBERS = (0, 1, 2, 3, 4, 8, 50, -1, -2, -3, -10, SIXTY, -SIXTY, GREAT, -GREAT, GREAT - 1)
NOT_WHOLE = (True, False, None, "", "3", "three", (), (3,), [], [3], {}, {3: 3}, 3.0)


class Whole(unittest.TestCase):
    def test_ints_are_whole(self):
        for n in NUMBERS + (10 ** 60, 10 ** 5000, -10 ** 5000):
            self.assertIs(is_whole(n), True)

    def test_other_things_are_not(self):
        for thing in NOT_WHOLE:
            with self.subTest(thing=thing):
                self.assertIs(is_whole(thing), False)


class Wheel(unittest.TestCase):
    def test_a_wheel_is_told_itself(self):
        for M in WHEELS:
            self.assertEqual(wheel(M), M)
            self.assertIs(type(wheel(M)), int)

    def test_numbers_below_three_are_refused(self):
        for n in (2, 1, 0, -1, -3, -5, -SIXTY, -GREAT):
            with self.subTest(n=n), self.assertRaises(NoWheel):
                wheel(n)

    def test_even_numbers_are_refused(self):
        for n in (4, 6, 10, 100, 10 ** 60 - 2):
            with self.subTest(n=n), self.assertRaises(NoWheel):
                wheel(n)

    def test_numbers_beyond_the_greatest_are_refused(self):
        for n in (10 ** 60, 10 ** 60 + 1, 10 ** 60 + 3, 10 ** 61 + 1, 10 ** 400 + 1):
            with self.subTest(n=n), self.assertRaises(NoWheel):
                wheel(n)

    def test_numbers_too_long_to_be_written_are_refused(self):
        for n in (10 ** 5000, 10 ** 5000 + 1, -10 ** 5000 - 1, 10 ** 100000 + 1):
            with self.assertRaises(NoWheel):
                wheel(n)

    def test_other_things_are_refused(self):
        deep = []
        for layer in range(100000):
            deep = [deep]
        for thing in NOT_WHOLE:
            with self.subTest(thing=thing), self.assertRaises(NoWheel):
                wheel(thing)
        with self.assertRaises(NoWheel):
            wheel(deep)
        while deep:
            deep = deep[0]


class On(unittest.TestCase):
    def test_numbers_on_the_wheel_stay(self):
        for M in WHEELS:
            for n in (0, 1, 2, M // 2, M - 2, M - 1):
                self.assertEqual(on(M, n), n)

    def test_edges(self):
        for M in WHEELS:
            self.assertEqual(on(M, M), 0)
            self.assertEqual(on(M, M + 1), 1)
            self.assertEqual(on(M, -1), M - 1)
            self.assertEqual(on(M, -M), 0)
            self.assertEqual(on(M, 1 - M), 1)
            self.assertEqual(on(M, -M - 1), M - 1)

    def test_by_hand(self):
        self.assertEqual(on(5, 13), 3)
        self.assertEqual(on(5, -13), 2)
        self.assertEqual(on(3, SIXTY), 0)
        self.assertEqual(on(9, SIXTY), 420 % 9)
        self.assertEqual(on(9, -SIXTY), 3)

    def test_it_differs_by_a_multiple(self):
        for M in WHEELS:
            for n in NUMBERS:
                told = on(M, n)
                self.assertTrue(0 <= told < M)
                self.assertEqual((n - told) // M * M, n - told)


TURNS = (
    (1, 0), (0, 0), (0, 1), (2, 1), (1, 2), (-1, 0), (-2, -3), (4, 7), (50, -100),
    (SIXTY, -SIXTY), (-GREAT, GREAT - 1), (3, 3),
)


class Turns(unittest.TestCase):
    def test_turned_by_hand(self):
        self.assertEqual(turned(7, (2, 3), 4), 4)
        self.assertEqual(turned(7, (2, 3), 0), 3)
        self.assertEqual(turned(7, (0, 3), 5), 3)
        self.assertEqual(turned(7, (-1, 0), 1), 6)
        self.assertEqual(turned(7, (9, -4), -1), 1)
        self.assertEqual(turned(5, (1, 0), 13), 3)

    def test_turned_is_on_the_wheel(self):
        for M in WHEELS:
            for turn in TURNS:
                for x in NUMBERS:
                    told = turned(M, turn, x)
                    self.assertTrue(0 <= told < M)
                    self.assertEqual((turn[0] * x + turn[1] - told) % M, 0)

    def test_then_by_hand(self):
        self.assertEqual(then(7, (2, 3), (4, 5)), (1, 3))
        self.assertEqual(then(7, (4, 5), (2, 3)), (1, 6))
        self.assertEqual(then(5, (-1, -1), (-1, -1)), (1, 0))
        self.assertEqual(then(5, (0, 2), (3, 4)), (0, 0))
        self.assertEqual(then(5, (3, 4), (0, 2)), (0, 2))

    def test_then_turns_as_the_two_in_this_order(self):
        for M in WHEELS:
            for one in TURNS:
                for other in TURNS:
                    both = then(M, one, other)
                    for x in NUMBERS:
                        self.assertEqual(turned(M, both, x), turned(M, other, turned(M, one, x)))

    def test_then_tells_a_turn_on_the_wheel(self):
        for M in WHEELS:
            for one in TURNS:
                for other in TURNS:
                    both = then(M, one, other)
                    self.assertIs(type(both), tuple)
                    self.assertEqual(len(both), 2)
                    self.assertTrue(0 <= both[0] < M)
                    self.assertTrue(0 <= both[1] < M)

    def test_one_nought_leaves_each_turn(self):
        for M in WHEELS:
            for turn in TURNS:
                same = (on(M, turn[0]), on(M, turn[1]))
                self.assertEqual(then(M, turn, (1, 0)), same)
                self.assertEqual(then(M, (1, 0), turn), same)
                self.assertEqual(then(M, turn, (1 - M, M)), same)


if __name__ == "__main__":
    unittest.main()
