"""Prices of readings, least prices and cheapest readings [28]."""

import unittest

from chiefway.books import book
from chiefway.counting import counts, number_of
from chiefway.errors import NoReading
from chiefway.prices import cheapest, least, price
from chiefway.readings import is_reading
from helper import GREAT, all_kinds, any_aligned_book, any_book, naive_readings, samples

TOP = 10 ** 30
# a leads to b by roads that cost 5, 2, 2; b to c by one that costs 10; a to c by one that costs 12.
BOOK = book(7, ["a", "b", "c", "d"], [(0, 1, 1, 0, 5), (1, 2, 1, 0, 10), (0, 1, 2, 0, 2), (0, 1, 3, 0, 2), (0, 2, 1, 1, 12)], [
    ("f", (1,), 1, [((1,), 1)], 100),
    ("f", (0,), 0, [((1,), 1)], 100),
    ("f", (0,), 1, [((1,), 2)], 102),
    ("g", (0, 0), 0, [((1, 1), 1)], 1000),
    ("h", (3,), 3, [], 7),
])
HEADS = [("x", 0), ("y", 1)]
X = ("name", "x")
Y = ("name", "y")
Z = ("name", "z")


def naive_price(told, reading):
    """All prices in a reading added up: of each way's roads, of each use's make."""
    if reading[0] == "let":
        return naive_price(told, reading[3]) + naive_price(told, reading[4])
    total = sum(told[2][road][4] for road in reading[-1])
    inside = ()
    if reading[0] == "use":
        total += told[3][reading[1]][4]
        inside = reading[2]
    elif reading[0] == "pick":
        inside = reading[3:6]
    elif reading[0] == "again":
        inside = reading[4:6]
    return total + sum(naive_price(told, one) for one in inside)


class Price(unittest.TestCase):
    def test_each_kind_of_reading(self):
        x, z = ("name", "x", (2,)), ("name", "z", ())
        for reading, number in (
            (("name", "x", ()), 0),
            (("name", "x", (0, 1)), 15),
            (("number", 3, 0, (4,)), 12),
            (("use", 0, (x,), ()), 102),
            (("use", 0, (x,), (1,)), 112),
            (("use", 3, (("use", 1, (("name", "x", ()),), ()), ("use", 1, (("name", "x", ()),), ())), (0, 1)), 1215),
            (("let", "z", 1, x, ("name", "z", (1,))), 12),
            (("let", "z", 1, ("use", 0, (x,), ()), z), 102),
            (("pick", 1, 1, x, ("name", "x", (0,)), ("name", "y", ()), (1,)), 17),
            (("again", 9, 1, "z", x, ("use", 0, (z,), ()), (1,)), 112),
            (("again", 0, 1, "z", x, ("use", 0, (z,), ()), ()), 102),
        ):
            with self.subTest(reading=reading):
                self.assertEqual(price(BOOK, reading), number)
                self.assertEqual(naive_price(BOOK, reading), number)

    def test_great_prices_without_loss(self):
        told = book(3, ["a", "b"], [(0, 1, 1, 0, TOP)], [("f", (1,), 0, [], TOP - 1)])
        part = X
        for layer in range(50):
            part = ("use", "f", (part,))
        reading = cheapest(told, [("x", 0)], part, 1)
        self.assertEqual(price(told, reading), 51 * TOP + 50 * (TOP - 1))
        self.assertEqual(least(told, [("x", 0)], part), [50 * TOP + 50 * (TOP - 1), 51 * TOP + 50 * (TOP - 1)])


class Cheapest(unittest.TestCase):
    def check(self, told, heads, part, readings):
        """Held against all readings told one by one."""
        prices = least(told, heads, part)
        self.assertEqual(len(prices), len(told[1]))
        for kind in all_kinds(told):
            if readings[kind]:
                found = [naive_price(told, one) for one in readings[kind]]
                self.assertEqual(prices[kind], min(found))
                self.assertEqual(cheapest(told, heads, part, kind), readings[kind][found.index(min(found))])
            else:
                self.assertIsNone(prices[kind])
                with self.assertRaises(NoReading):
                    cheapest(told, heads, part, kind)

    def test_names_and_numbers(self):
        self.assertEqual(least(BOOK, HEADS, X), [0, 2, 12, None])
        self.assertEqual(cheapest(BOOK, HEADS, X, 0), ("name", "x", ()))
        # Ties between ways: the first one of those that cost least.
        self.assertEqual(cheapest(BOOK, HEADS, X, 1), ("name", "x", (2,)))
        self.assertEqual(cheapest(BOOK, tuple(HEADS), X, 2), ("name", "x", (2, 1)))
        self.assertEqual(least(BOOK, HEADS, ("number", 1, 1)), [None, 0, 10, None])
        with self.assertRaises(NoReading):
            cheapest(BOOK, HEADS, X, 3)
        with self.assertRaises(NoReading):
            cheapest(BOOK, HEADS, Y, 0)

    def test_ties_between_makes(self):
        # 2 + 100 by the first make, 100 + 2 by the second one, 102 by the third one.
        self.assertEqual(least(BOOK, HEADS, ("use", "f", (X,))), [100, 102, 112, None])
        self.assertEqual(cheapest(BOOK, HEADS, ("use", "f", (X,)), 1), ("use", 0, (("name", "x", (2,)),), ()))
        self.assertEqual(cheapest(BOOK, HEADS, ("use", "f", (X,)), 0), ("use", 1, (("name", "x", ()),), ()))

    def test_ties_between_the_readings_of_an_arg(self):
        told = book(7, ["a", "b"], [(0, 1, 1, 0, 3), (0, 1, 2, 0, 3)], [("f", (1, 1), 0, [], 1), ("f", (1, 1), 0, [], 1)])
        x = ("name", "x", (0,))
        self.assertEqual(cheapest(told, HEADS, ("use", "f", (X, X)), 1), ("use", 0, (x, x), (0,)))

    def test_ties_between_the_kinds_of_a_let(self):
        part = ("let", "z", X, Z)
        self.assertEqual(cheapest(BOOK, HEADS, part, 1), ("let", "z", 0, ("name", "x", ()), ("name", "z", (2,))))
        self.assertEqual(cheapest(BOOK, HEADS, part, 2), ("let", "z", 0, ("name", "x", ()), ("name", "z", (2, 1))))
        # Used twice: once along the road, then twice for nothing.
        part = ("let", "z", X, ("pick", 1, 1, Z, Z, Y))
        s = ("pick", 1, 1, ("name", "z", ()), ("name", "z", ()), ("name", "y", ()), ())
        self.assertEqual(cheapest(BOOK, HEADS, part, 1), ("let", "z", 1, ("name", "x", (2,)), s))
        self.assertEqual(least(BOOK, HEADS, part), [None, 2, 12, None])

    def test_picks_and_agains(self):
        part = ("pick", 1, 2, X, Y, X)
        told = ("pick", 1, 2, ("name", "x", (2,)), ("name", "y", (1,)), ("name", "x", (2, 1)), ())
        self.assertEqual(cheapest(BOOK, HEADS, part, 2), told)
        part = ("again", 9, 0, "z", X, ("use", "f", (Z,)))
        told = ("again", 9, 0, "z", ("name", "x", ()), ("use", 1, (("name", "z", ()),), ()), (2,))
        self.assertEqual(cheapest(BOOK, HEADS, part, 1), told)
        self.assertEqual(least(BOOK, HEADS, part), [100, 102, 112, None])

    def test_no_reading_at_all(self):
        part = ("use", "h", (X,))
        self.assertEqual(least(BOOK, HEADS, part), [None] * 4)
        for kind in all_kinds(BOOK):
            with self.assertRaises(NoReading):
                cheapest(BOOK, HEADS, part, kind)

    def test_by_all_readings(self):
        for part in (
            X, Y, ("use", "f", (X,)), ("use", "f", (("use", "f", (X,)),)), ("use", "g", (("use", "f", (X,)), X)),
            ("let", "z", ("use", "f", (X,)), ("use", "f", (Z,))), ("pick", 1, 0, ("use", "f", (X,)), X, ("use", "f", (X,))),
        ):
            self.check(BOOK, HEADS, part, [naive_readings(BOOK, HEADS, part, kind) for kind in all_kinds(BOOK)])

    def test_of_any_book(self):
        for make_book, seed in ((any_book, 81), (any_aligned_book, 82)):
            for told, heads, part, readings in samples(seed, (3, 9), 150, make_book, 11, 300):
                kept = list(heads)
                self.check(told, heads, part, readings)
                self.assertEqual(heads, kept)

    def test_a_new_list_each_time(self):
        one = least(BOOK, HEADS, X)
        one.clear()
        self.assertEqual(least(BOOK, HEADS, X), [0, 2, 12, None])


class VeryMany(unittest.TestCase):
    def test_readings_that_cannot_be_told_one_by_one(self):
        roads = [(n // 3, n // 3 + 1, 1, 0, (n + 1) % 3) for n in range(12)]
        told = book(GREAT, ["a", "b", "c", "d", "e"], roads, [
            ("f", (4, 4), 0, [((1, 1), 1)], 3), ("f", (4, 4), 0, [((1, 0), 1)], 2), ("f", (4, 4), 0, [((0, 1), 1)], 2),
            ("f", (4, 3), 0, [((0, 1), 1)], 2)])
        heads = [("x", 0)]
        part = X
        for layer in range(28):
            part = ("use", "f", (part, X) if layer % 2 else (X, part))
        self.assertGreater(counts(told, heads, part)[4], 10 ** 110)
        reading = cheapest(told, heads, part, 4)
        self.assertTrue(is_reading(told, heads, part, 4, reading))
        self.assertEqual(price(told, reading), least(told, heads, part)[4])
        self.assertEqual(price(told, reading), 56)
        # The roads that cost nothing are the third ones: 2, 5, 8, 11.
        self.assertEqual(reading[1], 1)
        self.assertEqual(reading[3], (2, 5, 8, 11))
        self.assertGreater(number_of(told, heads, part, 4, reading), 10 ** 100)


if __name__ == "__main__":
    unittest.main()
