"""Readings: which tuples are one [22], and what they are worth [23]."""

import random
import unittest

from chiefway.books import book
from chiefway.readings import is_reading, worth
from helper import GREAT, all_kinds, any_aligned_book, any_book, any_given, naive_value, naive_ways, samples

SIXTY = int("7" * 60)
# Two roads from a to b, one on to c; c stands apart from d.
BOOK = book(7, ["a", "b", "c", "d"], [(0, 1, 2, 0, 0), (1, 2, 1, 3, 0), (0, 1, 3, 1, 0)], [
    ("f", (0,), 1, [((2,), 1)], 0),
    ("f", (1, 2), 0, [((1, 1), 1), ((0, 0), 2)], 0),
    ("g", (0,), 1, [((1,), 5)], 0),
    ("f", (1,), 3, [((1,), 1), ((0,), 4)], 0),
])
HEADS = [("x", 0), ("y", 1)]
X = ("name", "x")
Y = ("name", "y")


class IsReading(unittest.TestCase):
    def check(self, part, kind, good, wrong):
        for reading in good:
            self.assertIs(is_reading(BOOK, HEADS, part, kind, reading), True, reading)
            self.assertIs(is_reading(BOOK, tuple(HEADS), part, kind, reading), True)
        for reading in wrong:
            self.assertIs(is_reading(BOOK, HEADS, part, kind, reading), False, reading)

    def test_names(self):
        self.check(X, 2, [("name", "x", (0, 1)), ("name", "x", (2, 1))], [
            ("name", "y", (0, 1)), ("name", "y", (1,)), ("name", "", (0, 1)), ("name", "x", ()), ("name", "x", (0,)),
            ("name", "x", (1,)), ("name", "x", (1, 0)), ("name", "x", (0, 1, 1)), ("name", "x", (-1, 1)),
            ("name", "x", (-3, 1)), ("name", "x", (3,)), ("name", "x", (SIXTY,)), ("number", 1, 0, (0, 1)),
            ("name", "in", (0, 1)), ("name", "x", (0, -2))])
        self.check(X, 0, [("name", "x", ())], [("name", "x", (0,)), ("name", "y", ())])
        self.check(X, 3, [], [("name", "x", ()), ("name", "x", (0, 1))])

    def test_numbers(self):
        self.check(("number", 5, 1), 2, [("number", 5, 1, (1,))], [
            ("number", 4, 1, (1,)), ("number", 12, 1, (1,)), ("number", -2, 1, (1,)), ("number", 5, 0, (1,)),
            ("number", 5, 0, (0, 1)), ("number", 5, 2, ()), ("number", 5, 1, ()), ("number", 5, 1, (-2,)),
            ("number", 5, -3, (1,)), ("name", "x", (0, 1))])

    def test_uses(self):
        x = ("name", "x", ())
        self.check(("use", "f", (X,)), 1, [("use", 0, (x,), ())], [
            ("use", 2, (x,), ()), ("use", 0, (x,), (1,)), ("use", 0, (("name", "x", (0,)),), ()), ("use", 0, (), ()),
            ("use", 0, (x, x), ()), ("use", -4, (x,), ()), ("use", 4, (x,), ()), ("use", SIXTY, (x,), ()),
            ("use", -SIXTY, (x,), ()), ("use", 0, (("name", "y", ()),), ()), ("use", 1, (x,), ()), ("use", -1, (x,), ()),
            ("use", 3, (("name", "x", (0,)),), ()), ("name", "x", (0,))])
        self.check(("use", "f", (X,)), 2, [("use", 0, (x,), (1,))], [("use", 0, (x,), ()), ("use", 0, (x,), (0, 1))])
        self.check(("use", "f", (X,)), 3, [("use", 3, (("name", "x", (2,)),), ())], [("use", 0, (x,), ())])

    def test_uses_of_two(self):
        r, s = ("name", "x", (2,)), ("name", "y", (1,))
        self.check(("use", "f", (X, Y)), 1, [("use", 1, (r, s), (0,)), ("use", 1, (r, s), (2,))], [
            ("use", 1, (s, r), (0,)), ("use", 1, (r,), (0,)), ("use", 1, (r, s, s), (0,)), ("use", 0, (r, s), ()),
            ("use", 0, (("name", "x", ()), s), ()), ("use", 1, (r, ("name", "y", ())), (0,)), ("use", 1, (), (0,)),
            ("use", 1, (("name", "x", (0, 1)), s), (0,)), ("use", 1, (r, s), ())])

    def test_lets(self):
        part = ("let", "z", X, ("use", "f", (("name", "z"), Y)))
        s = ("use", 1, (("name", "z", (2,)), ("name", "y", (1,))), ())
        t = ("use", 1, (("name", "z", ()), ("name", "y", (1,))), ())
        self.check(part, 0, [
            ("let", "z", 0, ("name", "x", ()), s),
            ("let", "z", 1, ("name", "x", (0,)), t),
            ("let", "z", 1, ("name", "x", (2,)), t),
        ], [
            ("let", "z", 1, ("name", "x", (0,)), s), ("let", "z", 0, ("name", "x", ()), t),
            ("let", "z", 0, ("name", "x", (0,)), t), ("let", "z", 1, ("name", "x", ()), t),
            ("let", "y", 0, ("name", "x", ()), s), ("let", "z", -4, ("name", "x", ()), s),
            ("let", "z", 4, ("name", "x", ()), s), ("let", "z", 2, ("name", "x", (0, 1)), t),
            ("let", "z", SIXTY, ("name", "x", ()), s), ("let", "z", -3, ("name", "x", (0,)), t),
            ("let", "z", 0, s, ("name", "x", ())),
        ])

    def test_a_name_of_a_let_is_known_in_its_two_alone(self):
        part = ("let", "z", ("let", "z", X, ("name", "z")), ("name", "z"))
        one = ("let", "z", 0, ("name", "x", ()), ("name", "z", (0,)))
        self.check(part, 2, [("let", "z", 1, one, ("name", "z", (1,)))], [
            ("let", "z", 1, one, ("name", "z", (0, 1))), ("let", "z", 0, one, ("name", "z", (0, 1)))])

    def test_picks(self):
        part = ("pick", 2, 1, X, X, Y)
        q, r, s = ("name", "x", (0, 1)), ("name", "x", (2,)), ("name", "y", ())
        self.check(part, 2, [("pick", 2, 1, q, r, s, (1,))], [
            ("pick", 1, 1, q, r, s, (1,)), ("pick", 2, 2, q, r, s, (1,)), ("pick", 2, 1, r, r, s, (1,)),
            ("pick", 2, 1, q, q, s, (1,)), ("pick", 2, 1, q, r, r, (1,)), ("pick", 2, 1, q, s, r, (1,)),
            ("pick", 2, 1, q, r, s, ()), ("pick", 2, 1, q, r, s, (0, 1)), ("pick", -2, 1, q, r, s, (1,)),
            ("pick", 2, -3, q, r, s, (1,)), ("pick", 1, 2, q, r, s, (1,))])

    def test_agains(self):
        part = ("again", 3, 1, "z", X, ("use", "f", (("name", "z"), ("number", 1, 2))))
        r = ("name", "x", (0,))
        s = ("use", 1, (("name", "z", ()), ("number", 1, 2, ())), (2,))
        self.check(part, 2, [("again", 3, 1, "z", r, s, (1,))], [
            ("again", 2, 1, "z", r, s, (1,)), ("again", -3, 1, "z", r, s, (1,)), ("again", 3, 0, "z", r, s, (1,)),
            ("again", 3, 1, "u", r, s, (1,)), ("again", 3, 1, "z", s, r, (1,)), ("again", 3, 1, "z", r, r, (1,)),
            ("again", 3, 1, "z", r, s, ()), ("again", 3, 1, "z", ("name", "x", ()), s, (1,)),
            ("again", 3, 1, "z", r, ("use", 1, (("name", "z", (2,)), ("number", 1, 2, ())), (2,)), (1,)),
            ("again", 3, 1, "z", r, ("use", 1, (("name", "z", ()), ("number", 1, 2, ())), ()), (1,))])

    def test_readings_of_other_parts(self):
        readings = [
            ("name", "x", ()), ("number", 1, 0, ()), ("use", 0, (("name", "x", ()),), ()),
            ("let", "z", 0, ("name", "x", ()), ("name", "z", ())),
            ("pick", 0, 0, ("name", "x", ()), ("name", "x", ()), ("name", "x", ()), ()),
            ("again", 0, 0, "z", ("name", "x", ()), ("name", "z", ()), ())]
        parts = [X, ("number", 1, 0), ("use", "f", (X,)), ("let", "z", X, ("name", "z")), ("pick", 0, 0, X, X, X),
                 ("again", 0, 0, "z", X, ("name", "z"))]
        for i, part in enumerate(parts):
            for j, reading in enumerate(readings):
                self.assertIs(is_reading(BOOK, HEADS, part, 1 if i == 2 else 0, reading), i == j)

    def test_of_any_book(self):
        chance = random.Random(41)
        seen = {True: 0, False: 0}
        for told, heads, part, readings in samples(42, (3, 7), 150, any_aligned_book, 8, 200):
            for kind in all_kinds(told):
                for other in all_kinds(told):
                    for reading in readings[other][:20]:
                        wrong = spoiled(chance, told, reading)
                        for one in (reading, wrong):
                            answer = is_reading(told, heads, part, kind, one)
                            self.assertIs(answer, one in readings[kind])
                            seen[answer] += 1
        self.assertGreater(min(seen.values()), 500)


def spoiled(chance, told, thing):
    """The reading with one number, text or way in it changed (or, seldom, with none changed)."""
    if type(thing) is int:
        return chance.choice((thing + 1, thing - 1, -thing, 0, SIXTY))
    if type(thing) is str:
        return thing if thing in ("name", "number", "use", "let", "pick", "again") else chance.choice(("x", "y", "ua"))
    if all(type(one) is int for one in thing):
        every = [way for j in all_kinds(told) for k in all_kinds(told) for way in naive_ways(told, j, k)]
        return chance.choice(every + [thing[:-1], thing + (0,), thing[::-1]])
    place = chance.randrange(1, len(thing)) if type(thing[0]) is str else chance.randrange(len(thing))
    return thing[:place] + (spoiled(chance, told, thing[place]),) + thing[place + 1:]


class Worth(unittest.TestCase):
    def check(self, reading, given, number):
        self.assertEqual(worth(BOOK, reading, given), number)

    def test_names_and_numbers(self):
        self.check(("name", "x", ()), {"x": 4, "y": 2}, 4)
        self.check(("name", "x", (0,)), {"x": 4}, 1)
        # 4, 3 * 4 + 1 = 6, 6 + 3 = 2
        self.check(("name", "x", (2, 1)), {"x": 4}, 2)
        self.check(("number", 5, 0, ()), {}, 5)
        self.check(("number", 5, 0, (2, 1)), {}, 5)

    def test_uses(self):
        self.check(("use", 0, (("name", "x", ()),), ()), {"x": 3}, 2)
        self.check(("use", 0, (("name", "x", ()),), (1,)), {"x": 3}, 5)
        # x at b is 0, y at c is 1: the first one is the first unknown
        self.check(("use", 1, (("name", "x", (0,)), ("name", "y", (1,))), (2,)), {"x": 3, "y": 2}, (6 * 5 + 2) * 3 % 7 + 1)

    def test_the_order_of_the_args(self):
        told = book(7, ["a"], [], [("f", (0, 0), 0, [((2, 0), 1), ((0, 1), 3)], 0)])
        reading = ("use", 0, (("name", "x", ()), ("name", "y", ())), ())
        self.assertEqual(worth(told, reading, {"x": 2, "y": 5}), 19 % 7)

    def test_lets(self):
        double = ("use", 2, (("name", "z", ()),), ())
        self.check(("let", "z", 0, ("name", "x", ()), double), {"x": 2}, 3)
        self.check(("let", "z", 1, ("name", "x", (0,)), ("name", "z", (1,))), {"x": 2}, 0)

    def test_a_name_of_a_let_in_its_two_alone(self):
        inner = ("let", "z", 0, ("number", 2, 0, ()), ("name", "z", (0,)))
        self.check(("let", "z", 1, inner, ("name", "z", (1,))), {}, 0)
        given = {"x": 1}
        reading = ("pick", 0, 0, ("let", "z", 0, ("name", "x", ()), ("name", "z", ())), ("name", "z", ()), ("name", "x", ()), ())
        given["z"] = 5
        self.check(reading, given, 5)
        self.assertEqual(given, {"x": 1, "z": 5})

    def test_picks(self):
        reading = ("pick", 0, 1, ("name", "x", ()), ("number", 1, 1, ()), ("number", 2, 1, ()), (1,))
        self.check(reading, {"x": 0}, 5)
        for x in range(1, 7):
            self.check(reading, {"x": x}, 4)

    def test_agains(self):
        five = ("use", 2, (("name", "z", ()),), ())
        # g gives a b where it takes an a: so a make that gives what it takes is used here.
        told = book(7, ["a", "b"], [(0, 1, 2, 1, 0)], [("f", (0,), 0, [((1,), 3), ((0,), 1)], 0)])
        step = ("use", 0, (("name", "z", ()),), ())
        for n, number in ((0, 2), (1, 0), (2, 1), (3, 4), (9, None)):
            reading = ("again", n, 0, "z", ("name", "x", ()), step, ())
            if number is None:
                number = 2
                for time in range(9):
                    number = (3 * number + 1) % 7
            self.assertEqual(worth(told, reading, {"x": 2}), number)
            self.assertEqual(worth(told, reading[:-1] + ((0,),), {"x": 2}), (2 * number + 1) % 7)
        self.check(("again", 1, 1, "z", ("name", "y", ()), ("number", 3, 1, ()), ()), {"y": 2}, 3)
        self.check(("again", 0, 1, "z", ("name", "y", ()), five, ()), {"y": 2}, 2)

    def test_agains_in_one_another(self):
        told = book(101, ["a"], [], [("add", (0, 0), 0, [((1, 0), 1), ((0, 1), 1)], 0)])
        inside = ("again", 3, 0, "w", ("name", "z", ()), ("use", 0, (("name", "w", ()), ("name", "x", ())), ()), ())
        self.assertEqual(worth(told, ("again", 4, 0, "z", ("number", 0, 0, ()), inside, ()), {"x": 5}), 60)

    def test_what_is_given_stays(self):
        given = {"x": 1, "w": 2}
        worth(BOOK, ("let", "z", 0, ("name", "x", ()), ("again", 2, 0, "u", ("name", "z", ()), ("name", "u", ()), ())), given)
        self.assertEqual(given, {"x": 1, "w": 2})

    def test_of_any_book(self):
        chance = random.Random(43)
        many = 0
        for told, heads, part, readings in samples(44, (3, 9, GREAT), 120, any_book, 9, 60):
            given = any_given(chance, told, heads)
            for there in readings:
                for reading in there:
                    number = worth(told, reading, given)
                    self.assertEqual(number, naive_value(told, reading, given))
                    self.assertTrue(0 <= number < told[0])
                    many += 1
        self.assertGreater(many, 300)


if __name__ == "__main__":
    unittest.main()
