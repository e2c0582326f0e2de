"""Readings counted, and told by their numbers [24]."""

import unittest

from chiefway.books import book
from chiefway.counting import counts, number_of, told
from chiefway.errors import NoReading
from chiefway.readings import is_reading
from helper import GREAT, all_kinds, all_tuples, any_aligned_book, any_book, naive_readings, samples

# Two roads from a to b, one on to c, one from a to c.
BOOK = book(7, ["a", "b", "c"], [(0, 1, 2, 0, 0), (1, 2, 1, 3, 0), (0, 1, 3, 1, 0), (0, 2, 1, 1, 0)], [
    ("f", (1,), 0, [((2,), 1)], 0),
    ("f", (0,), 1, [((1,), 1)], 0),
    ("g", (1, 2), 0, [((1, 1), 1)], 0),
    ("g", (0, 0), 0, [((1, 0), 1)], 0),
    ("h", (2,), 2, [], 0),
])
HEADS = [("x", 0), ("y", 1)]
X = ("name", "x")
Y = ("name", "y")
PARTS = (
    X, ("number", 3, 1), ("use", "f", (X,)), ("use", "f", (Y,)), ("use", "g", (X, Y)), ("use", "g", (X, X)),
    ("let", "z", X, ("name", "z")), ("let", "z", X, ("use", "g", (("name", "z"), ("name", "z")))),
    ("pick", 1, 0, X, X, ("use", "f", (X,))), ("pick", 2, 1, X, X, X),
    ("again", 3, 1, "z", X, ("use", "f", (("name", "z"),))), ("again", 0, 2, "z", X, ("use", "h", (("name", "z"),))),
)


class Counted(unittest.TestCase):
    def test_by_hand(self):
        self.assertEqual(counts(BOOK, HEADS, X), [1, 2, 3])
        self.assertEqual(counts(BOOK, HEADS, Y), [0, 1, 1])
        self.assertEqual(counts(BOOK, HEADS, ("number", 3, 1)), [0, 1, 1])
        # Two times one way by the first make, one by the second one.
        self.assertEqual(counts(BOOK, HEADS, ("use", "f", (X,))), [2, 2 * 2 + 1, 2 * 3 + 1])
        self.assertEqual(counts(BOOK, HEADS, ("use", "h", (("number", 3, 1),))), [0, 0, 1])
        self.assertEqual(counts(BOOK, HEADS, ("let", "z", X, ("name", "z"))), [1, 2 + 2, 3 + 2 + 3])

    def test_the_order_told(self):
        for part in PARTS:
            for kind in all_kinds(BOOK):
                self.check(BOOK, HEADS, part, kind, naive_readings(BOOK, HEADS, part, kind))

    def check(self, told_book, heads, part, kind, readings):
        self.assertEqual(counts(told_book, heads, part)[kind], len(readings))
        for n, reading in enumerate(readings):
            self.assertEqual(told(told_book, heads, part, kind, n), reading)
            self.assertEqual(number_of(told_book, heads, part, kind, reading), n)
        for n in (-1, -2, -len(readings), len(readings), len(readings) + 1, 10 ** 399, -10 ** 399):
            if not 0 <= n < len(readings):
                with self.assertRaises(NoReading):
                    told(told_book, heads, part, kind, n)

    def test_first_and_last_by_hand(self):
        self.assertEqual(told(BOOK, HEADS, X, 2, 0), ("name", "x", (0, 1)))
        self.assertEqual(told(BOOK, HEADS, X, 2, 2), ("name", "x", (3,)))
        part = ("use", "g", (X, X))
        # By v, the first arg, the second arg, the way.
        self.assertEqual(told(BOOK, HEADS, part, 1, 0), ("use", 2, (("name", "x", (0,)), ("name", "x", (0, 1))), (0,)))
        self.assertEqual(told(BOOK, HEADS, part, 1, 1), ("use", 2, (("name", "x", (0,)), ("name", "x", (0, 1))), (2,)))
        self.assertEqual(told(BOOK, HEADS, part, 1, 2), ("use", 2, (("name", "x", (0,)), ("name", "x", (2, 1))), (0,)))
        self.assertEqual(told(BOOK, HEADS, part, 1, 6), ("use", 2, (("name", "x", (2,)), ("name", "x", (0, 1))), (0,)))
        self.assertEqual(told(BOOK, HEADS, part, 1, 13), ("use", 3, (("name", "x", ()), ("name", "x", ())), (2,)))
        part = ("let", "z", X, ("name", "z"))
        self.assertEqual(told(BOOK, HEADS, part, 1, 0), ("let", "z", 0, ("name", "x", ()), ("name", "z", (0,))))
        self.assertEqual(told(BOOK, HEADS, part, 1, 3), ("let", "z", 1, ("name", "x", (2,)), ("name", "z", ())))
        part = ("pick", 1, 1, X, X, X)
        self.assertEqual(told(BOOK, HEADS, part, 1, 1),
                         ("pick", 1, 1, ("name", "x", (0,)), ("name", "x", (0,)), ("name", "x", (2,)), ()))
        self.assertEqual(told(BOOK, HEADS, part, 1, 4),
                         ("pick", 1, 1, ("name", "x", (2,)), ("name", "x", (0,)), ("name", "x", (0,)), ()))
        part = ("again", 2, 0, "z", X, ("use", "f", (("name", "z"),)))
        s = ("use", 0, (("name", "z", (2,)),), ())
        self.assertEqual(told(BOOK, HEADS, part, 1, 2), ("again", 2, 0, "z", ("name", "x", ()), s, (0,)))

    def test_heads_as_a_tuple(self):
        for part in PARTS:
            self.assertEqual(counts(BOOK, tuple(HEADS), part), counts(BOOK, HEADS, part))

    def test_a_new_list_each_time(self):
        heads = list(HEADS)
        one = counts(BOOK, heads, X)
        one.append(1)
        self.assertEqual(counts(BOOK, heads, X), [1, 2, 3])
        told(BOOK, heads, PARTS[-1], 2, 0)
        self.assertEqual(heads, HEADS)

    def test_of_any_book(self):
        many = 0
        for make_book, seed in ((any_book, 51), (any_aligned_book, 52)):
            for told_book, heads, part, readings in samples(seed, (3, 15), 150, make_book, 10, 40):
                for kind in all_kinds(told_book):
                    self.check(told_book, heads, part, kind, readings[kind])
                    many += len(readings[kind])
        self.assertGreater(many, 800)

    def test_one_name_for_two_lets_and_agains(self):
        z = ("name", "z")
        for part in (
            ("use", "g", (("let", "z", X, z), ("again", 1, 2, "z", X, z))),
            ("let", "z", ("let", "z", X, z), z),
            ("let", "z", ("again", 1, 1, "z", X, z), ("use", "f", (z,))),
        ):
            for kind in all_kinds(BOOK):
                readings = naive_readings(BOOK, HEADS, part, kind)
                self.assertEqual(counts(BOOK, HEADS, part)[kind], len(readings))
                for n, reading in list(enumerate(readings))[::7]:
                    self.assertEqual(told(BOOK, HEADS, part, kind, n), reading)
                    self.assertEqual(number_of(BOOK, HEADS, part, kind, reading), n)


class VeryMany(unittest.TestCase):
    ROADS = [(n // 3, n // 3 + 1, n + 1, n, 1) for n in range(12)]
    BOOK = book(GREAT, ["a", "b", "c", "d", "e"], ROADS, [
        ("f", (4, 4), 0, [((1, 1), 1)], 1), ("f", (4, 4), 0, [((1, 0), 1)], 2), ("f", (4, 4), 4, [((0, 1), 1)], 3),
        ("f", (3, 4), 0, [((1, 1), 1)], 1), ("g", (4,), 0, [((1,), 1)], 1)])

    def wide(self, n):
        if n == 1:
            return X
        return ("use", "f", (self.wide(n // 2), self.wide(n - n // 2)))

    def check(self, part, figures):
        many = counts(self.BOOK, HEADS, part)
        self.assertGreaterEqual(len(str(many[4])), figures)
        kept = []
        for n in (0, 1, many[4] // 3, many[4] * 7 // 9, many[4] - 2, many[4] - 1):
            reading = told(self.BOOK, HEADS, part, 4, n)
            self.assertTrue(all_tuples(reading))
            self.assertTrue(is_reading(self.BOOK, HEADS, part, 4, reading))
            self.assertEqual(number_of(self.BOOK, HEADS, part, 4, reading), n)
            kept.append(reading)
        self.assertEqual(len(set(kept)), 6)
        for n in (many[4], many[4] + 1, -1, -many[4]):
            with self.assertRaises(NoReading):
                told(self.BOOK, HEADS, part, 4, n)
        return many

    def test_many_parts(self):
        self.check(self.wide(30), 110)
        self.check(self.wide(100), 370)

    def test_by_their_numbers(self):
        part = X
        for layer in range(20):
            part = ("use", "g", (part,))
        self.assertEqual(self.check(part, 40)[4], 81 ** 21)
        self.assertEqual(counts(self.BOOK, HEADS, part), [81 ** 20 * n for n in (1, 3, 9, 27, 81)])

    def test_two_lets(self):
        y, z = ("name", "u"), ("name", "v")
        inner = ("use", "f", (y, z))
        for layer in range(8):
            inner = ("use", "f", (inner, ("pick", 1, 2, z, y, y)))
        self.check(("let", "u", self.wide(4), ("let", "v", self.wide(4), inner)), 70)

    def test_sixty_deep(self):
        part = X
        for layer in range(59):
            part = ("use", "g", (part,))
        self.check(part, 110)


if __name__ == "__main__":
    unittest.main()
