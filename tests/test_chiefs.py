"""Readings carried [25], chief readings [26], and what lacks where there is none [27]."""

import unittest

from chiefway.books import book
from chiefway.chiefs import carried, chief, lack
from chiefway.errors import NoReading
from chiefway.looks import even
from chiefway.programs import inner
from chiefway.readings import is_reading
from helper import GREAT, all_kinds, any_even_book, naive_carried, naive_chief, naive_chief_reading, naive_ways, samples

# a leads to b by two roads that turn alike, b to c; d stands apart.
BOOK = book(7, ["a", "b", "c", "d"], [(1, 2, 3, 1, 5), (0, 1, 2, 0, 2), (0, 1, 2, 0, 1)], [
    ("f", (1,), 1, [((1,), 3)], 0),
    ("f", (0,), 0, [((1,), 3)], 0),
    ("g", (1, 2), 0, [((1, 1), 1)], 0),
    ("h", (3,), 3, [((1,), 1)], 0),
])
HEADS = [("x", 0), ("y", 1), ("w", 3)]
X = ("name", "x")
Y = ("name", "y")
W = ("name", "w")
Z = ("name", "z")


class Carried(unittest.TestCase):
    def test_each_kind_of_reading(self):
        x, y = ("name", "x", ()), ("name", "y", ())
        for reading, j, told in (
            (("name", "x", ()), 0, ("name", "x", (1, 0))),
            (("name", "x", (2,)), 1, ("name", "x", (2, 0))),
            (("number", 5, 0, ()), 0, ("number", 5, 0, (1, 0))),
            (("use", 1, (x,), ()), 0, ("use", 1, (x,), (1, 0))),
            (("use", 1, (x,), (2,)), 1, ("use", 1, (x,), (2, 0))),
            (("pick", 0, 1, x, y, y, ()), 1, ("pick", 0, 1, x, y, y, (0,))),
            (("again", 3, 1, "z", y, ("name", "z", ()), ()), 1, ("again", 3, 1, "z", y, ("name", "z", ()), (0,))),
            (("let", "z", 0, x, ("name", "z", (1,))), 1, ("let", "z", 0, x, ("name", "z", (1, 0)))),
            (("let", "z", 1, y, x), 0, ("let", "z", 1, y, ("name", "x", (1, 0)))),
        ):
            self.assertEqual(carried(BOOK, reading, j, 2), told)

    def test_within_lets(self):
        inside = ("let", "u", 1, ("name", "y", ()), ("use", 1, (("name", "x", ()),), ()))
        reading = ("let", "z", 0, ("let", "v", 0, ("name", "x", ()), ("name", "v", ())), inside)
        told = ("let", "z", 0, ("let", "v", 0, ("name", "x", ()), ("name", "v", ())),
                ("let", "u", 1, ("name", "y", ()), ("use", 1, (("name", "x", ()),), (1,))))
        self.assertEqual(carried(BOOK, reading, 0, 1), told)
        self.assertEqual(carried(BOOK, reading, 0, 0), reading)

    def test_of_any_book(self):
        many = 0
        for told, heads, part, readings in samples(61, (5, 9), 120, any_even_book, 8, 60):
            for j in all_kinds(told):
                for reading in readings[j]:
                    for k in all_kinds(told):
                        if naive_ways(told, j, k):
                            answer = carried(told, reading, j, k)
                            self.assertEqual(answer, naive_carried(told, reading, j, k))
                            self.assertTrue(is_reading(told, heads, part, k, answer))
                            many += 1
        self.assertGreater(many, 500)


class Chief(unittest.TestCase):
    def check(self, part, kind, reading):
        self.assertEqual(chief(BOOK, HEADS, part), (kind, reading))
        self.assertEqual(chief(BOOK, tuple(HEADS), part), (kind, reading))
        self.assertIsNone(lack(BOOK, HEADS, part))

    def test_the_book_is_even(self):
        self.assertTrue(even(BOOK))

    def test_names_and_numbers(self):
        self.check(X, 0, ("name", "x", ()))
        self.check(Y, 1, ("name", "y", ()))
        self.check(("number", 5, 2), 2, ("number", 5, 2, ()))

    def test_uses(self):
        self.check(("use", "f", (X,)), 0, ("use", 1, (("name", "x", ()),), ()))
        self.check(("use", "f", (Y,)), 1, ("use", 0, (("name", "y", ()),), ()))
        self.check(("use", "g", (X, X)), 0, ("use", 2, (("name", "x", (1,)), ("name", "x", (1, 0))), ()))
        f = ("use", 0, (("name", "y", ()),), (0,))
        self.check(("use", "g", (Y, ("use", "f", (Y,)))), 0, ("use", 2, (("name", "y", ()), f), ()))

    def test_lets(self):
        self.check(("let", "z", X, Z), 0, ("let", "z", 0, ("name", "x", ()), ("name", "z", ())))
        self.check(("let", "z", X, Y), 1, ("let", "z", 0, ("name", "x", ()), ("name", "y", ())))
        part = ("let", "z", ("use", "f", (Y,)), ("use", "g", (Z, Z)))
        s = ("use", 2, (("name", "z", ()), ("name", "z", (0,))), ())
        self.check(part, 0, ("let", "z", 1, ("use", 0, (("name", "y", ()),), ()), s))

    def test_a_let_that_is_carried(self):
        part = ("use", "g", (("let", "z", X, Z), Y))
        one = ("let", "z", 0, ("name", "x", ()), ("name", "z", (1,)))
        self.check(part, 0, ("use", 2, (one, ("name", "y", (0,))), ()))

    def test_picks(self):
        part = ("pick", 2, 1, X, Y, ("use", "f", (X,)))
        told = ("pick", 2, 1, ("name", "x", (1, 0)), ("name", "y", ()), ("use", 1, (("name", "x", ()),), (1,)), ())
        self.check(part, 1, told)

    def test_agains(self):
        part = ("again", 3, 1, "z", X, ("use", "f", (Z,)))
        told = ("again", 3, 1, "z", ("name", "x", (1,)), ("use", 0, (("name", "z", ()),), ()), ())
        self.check(part, 1, told)

    def test_none(self):
        for part in (
            ("use", "h", (X,)), ("use", "g", (W, X)), ("use", "g", (X, W)), ("use", "f", (("use", "h", (X,)),)),
            ("let", "z", ("use", "h", (X,)), X), ("let", "z", X, ("use", "h", (Z,))), ("let", "z", W, ("use", "f", (Z,))),
            ("pick", 0, 1, Y, X, X), ("pick", 0, 1, X, W, X), ("pick", 0, 1, X, X, W), ("pick", 3, 1, X, X, X),
            ("again", 0, 1, "z", W, Z), ("again", 0, 0, "z", X, Y), ("again", 0, 3, "z", W, ("use", "f", (Z,))),
        ):
            with self.subTest(part=part):
                with self.assertRaises(NoReading):
                    chief(BOOK, HEADS, part)
                self.assertIsNotNone(lack(BOOK, HEADS, part))

    def test_of_any_even_book(self):
        found = []
        for told, heads, part, readings in samples(62, (3, 9, GREAT), 150, any_even_book, 14, 500):
            found.append(self.check_one(told, heads, part))
        self.assertGreater(found.count(None), 50)
        self.assertGreater(len(found) - found.count(None), 200)

    def check_one(self, told, heads, part):
        kept = list(heads)
        expected = naive_chief_reading(told, heads, part)
        if expected is None:
            with self.assertRaises(NoReading):
                chief(told, heads, part)
        else:
            self.assertEqual(chief(told, heads, part), expected)
            self.assertTrue(is_reading(told, heads, part, expected[0], expected[1]))
        self.assertEqual(lack(told, heads, part), naive_lack(told, heads, part))
        self.assertEqual(heads, kept)
        return expected


def places(told, heads, part, place=()):
    """All places with their part and heads, what stands in a part ahead of it, from left to right."""
    for number, one in enumerate(inner(part)):
        known = list(heads)
        if number == 1 and part[0] == "let":
            found = naive_chief_reading(told, heads, part[2])
            if found is None:
                # The lack lies in the let's one, and is found by then.
                continue
            known.append((part[1], found[0]))
        if number == 1 and part[0] == "again":
            known.append((part[3], part[2]))
        yield from places(told, known, one, place + (number,))
    yield place, heads, part


def naive_lack(told, heads, part):
    for place, known, one in places(told, heads, part):
        if naive_chief_reading(told, known, one) is None:
            within = [found for found in places(told, known, one) if len(found[0]) == 1]
            chiefs = [naive_chief_reading(told, others, two) for spot, others, two in within]
            if None not in chiefs and len(chiefs) == len(inner(one)):
                return (place, tuple(found[0] for found in chiefs))
    return None


class Lack(unittest.TestCase):
    def check(self, part, place, kinds):
        self.assertEqual(lack(BOOK, HEADS, part), (place, kinds))
        self.assertEqual(lack(BOOK, tuple(HEADS), part), (place, kinds))

    def test_at_the_body_itself(self):
        self.check(("use", "h", (X,)), (), (0,))
        self.check(("use", "g", (W, X)), (), (3, 0))
        self.check(("pick", 0, 1, Y, X, X), (), (1, 0, 0))
        self.check(("pick", 0, 1, X, X, W), (), (0, 0, 3))
        self.check(("again", 0, 1, "z", W, Z), (), (3, 1))
        self.check(("again", 0, 0, "z", X, Y), (), (0, 1))

    def test_in_a_let(self):
        bad = ("use", "h", (X,))
        self.check(("let", "z", bad, Z), (0,), (0,))
        self.check(("let", "z", bad, ("use", "h", (Z,))), (0,), (0,))
        self.check(("let", "z", Y, ("use", "h", (Z,))), (1,), (1,))
        self.check(("let", "z", ("use", "f", (bad,)), bad), (0, 0), (0,))
        self.check(("let", "z", X, ("let", "u", Z, ("use", "g", (Y, ("use", "h", (("name", "u"),)))))), (1, 1, 1), (0,))

    def test_the_first_place(self):
        bad = ("use", "h", (X,))
        self.check(("use", "g", (bad, bad)), (0,), (0,))
        self.check(("use", "g", (Y, bad)), (1,), (0,))
        self.check(("use", "g", (("use", "f", (bad,)), bad)), (0, 0), (0,))
        self.check(("use", "h", (("use", "h", (Y,)),)), (0,), (1,))
        self.check(("pick", 0, 1, X, ("use", "h", (Y,)), bad), (1,), (1,))
        self.check(("pick", 0, 3, X, X, bad), (2,), (0,))
        self.check(("again", 0, 3, "z", bad, ("use", "f", (Z,))), (0,), (0,))
        self.check(("again", 0, 3, "z", X, ("use", "f", (Z,))), (1,), (3,))
        # The body itself lacks too, but what stands in it comes ahead.
        self.check(("pick", 0, 0, Y, X, bad), (2,), (0,))

    def test_the_name_of_an_again_is_known_at_its_kind(self):
        self.check(("again", 1, 2, "z", X, ("use", "f", (Z,))), (1,), (2,))

    def test_none(self):
        for part in (X, ("number", 0, 3), ("use", "h", (W,)), ("let", "z", W, X)):
            self.assertIsNone(lack(BOOK, HEADS, part))

    def test_the_chief_make_is_the_one_of_the_looks(self):
        for kinds in ((0,), (1,), (2,), (3,)):
            part = ("use", "f", (("number", 1, kinds[0]),))
            v = naive_chief(BOOK, "f", kinds)
            if v is None:
                self.check(part, (), kinds)
            else:
                self.assertEqual(chief(BOOK, HEADS, part)[1][1], v)


if __name__ == "__main__":
    unittest.main()
