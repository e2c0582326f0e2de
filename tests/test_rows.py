"""Rows of readings [31], the longest they can take [32], and that they come to what the reading is worth [3]."""

import random
import unittest

from chiefway.books import book
from chiefway.machine import begun, run, step
from chiefway.rows import longest, rows_of
from helper import GREAT, any_aligned_book, any_book, any_given, naive_value, samples

BOOK = book(7, ["a", "b", "c"], [(0, 1, 2, 1, 0), (1, 2, 3, 4, 0), (0, 1, 5, 6, 0)], [
    ("f", (0,), 0, [((2,), 3), ((0,), 1)], 0),
    ("g", (0, 0), 0, [((1, 0), 1), ((0, 1), 2)], 0),
    ("f", (1,), 1, [((1,), 4)], 0),
])
HEADS = [("x", 0), ("y", 1)]
F = BOOK[3][0][3]
G = BOOK[3][1][3]
X = ("name", "x", ())
Y = ("name", "y", ())
Z = ("name", "z", ())
ONE = ("number", 1, 0, ())
TWO = ("number", 2, 0, ())
WAY = [("turn", 5, 6), ("turn", 3, 4)]


def pick(q, r, s, way=()):
    return ("pick", 0, 0, q, r, s, way)


def again(n, r, s, x="z", way=()):
    return ("again", n, 0, x, r, s, way)


class Rows(unittest.TestCase):
    def check(self, reading, rows, heads=HEADS):
        self.assertEqual(rows_of(BOOK, heads, reading), rows)
        self.assertEqual(rows_of(BOOK, tuple(heads), reading), rows)

    def test_names(self):
        self.check(X, [("take", 0)])
        self.check(Y, [("take", 1)])
        self.check(("name", "x", (2, 1)), [("take", 0)] + WAY)
        self.check(("name", "y", (1,)), [("take", 1), ("turn", 3, 4)])

    def test_of_heads_the_names_and_their_order_count(self):
        self.check(Y, [("take", 0)], [("y", 0), ("x", 99)])
        self.check(Y, [("take", 3)], [("u", -1), ("v", 0), ("w", 7), ("y", 0)])

    def test_numbers(self):
        self.check(("number", 5, 0, ()), [("push", 5)])
        self.check(("number", 0, 0, (0,)), [("push", 0), ("turn", 2, 1)], [])

    def test_uses(self):
        self.check(("use", 0, (X,), ()), [("take", 0), ("reckon", 1, F)])
        self.check(("use", 1, (X, TWO), (2, 1)), [("take", 0), ("push", 2), ("reckon", 2, G)] + WAY)
        self.check(("use", 1, (("use", 0, (X,), ()), ("use", 0, (TWO,), ())), ()), [
            ("take", 0), ("reckon", 1, F), ("push", 2), ("reckon", 1, F), ("reckon", 2, G)])

    def test_lets(self):
        self.check(("let", "z", 0, X, Z), [("take", 0), ("keep", 2), ("take", 2)])
        self.check(("let", "z", 0, ONE, Z), [("push", 1), ("keep", 0), ("take", 0)], [])
        inside = ("let", "u", 0, Z, ("use", 1, (("name", "u", ()), Z), ()))
        self.check(("let", "z", 0, X, inside), [
            ("take", 0), ("keep", 2), ("take", 2), ("keep", 3), ("take", 3), ("take", 2), ("reckon", 2, G)])

    def test_lets_beside_one_another_and_in_a_one(self):
        one = ("let", "z", 0, X, Z)
        rows = [("take", 0), ("keep", 2), ("take", 2)]
        self.check(("use", 1, (one, one), ()), rows + rows + [("reckon", 2, G)])
        self.check(("let", "u", 0, one, ("name", "u", (0,))), rows + [("keep", 2), ("take", 2), ("turn", 2, 1)])

    def test_picks(self):
        self.check(pick(X, ONE, TWO), [("take", 0), ("unless", 4), ("push", 1), ("go", 5), ("push", 2)])
        self.check(pick(("name", "x", (2, 1)), ("name", "x", (0,)), ("use", 0, (X,), ()), (2, 1)), [
            ("take", 0), ("turn", 5, 6), ("turn", 3, 4), ("unless", 7), ("take", 0), ("turn", 2, 1), ("go", 9),
            ("take", 0), ("reckon", 1, F)] + WAY)

    def test_picks_in_one_another(self):
        inside = pick(X, ONE, TWO)
        self.check(pick(inside, inside, inside), [
            ("take", 0), ("unless", 4), ("push", 1), ("go", 5), ("push", 2),
            ("unless", 12),
            ("take", 0), ("unless", 10), ("push", 1), ("go", 11), ("push", 2),
            ("go", 17),
            ("take", 0), ("unless", 16), ("push", 1), ("go", 17), ("push", 2)])

    def test_agains(self):
        self.check(again(3, X, ("use", 0, (Z,), ()), "z", (2, 1)), [
            ("take", 0), ("keep", 2), ("count", 0, 3), ("round", 0, 8), ("take", 2), ("reckon", 1, F), ("keep", 2),
            ("go", 3), ("take", 2)] + WAY)
        self.check(again(0, ONE, TWO), [
            ("push", 1), ("keep", 0), ("count", 0, 0), ("round", 0, 7), ("push", 2), ("keep", 0), ("go", 3), ("take", 0)], [])

    def test_agains_in_one_another(self):
        inside = again(2, X, ("name", "u", ()), "u")
        self.check(again(3, inside, inside), [
            ("take", 0), ("keep", 2), ("count", 0, 2), ("round", 0, 7), ("take", 2), ("keep", 2), ("go", 3), ("take", 2),
            ("keep", 2), ("count", 0, 3), ("round", 0, 21),
            ("take", 0), ("keep", 3), ("count", 1, 2), ("round", 1, 18), ("take", 3), ("keep", 3), ("go", 14), ("take", 3),
            ("keep", 2), ("go", 10), ("take", 2)])

    def test_tallies_of_agains_in_the_one_of_another(self):
        # The third one stands within the two of the first one, but in the one of the second one.
        third = again(1, ONE, ONE, "w")
        rows = rows_of(BOOK, HEADS, again(3, X, again(2, third, ("name", "u", ()), "u")))
        self.assertEqual([row for row in rows if row[0] == "count"], [("count", 0, 3), ("count", 1, 1), ("count", 1, 2)])
        rows = rows_of(BOOK, HEADS, again(3, X, again(2, ONE, third, "u")))
        self.assertEqual([row for row in rows if row[0] == "count"], [("count", 0, 3), ("count", 1, 2), ("count", 2, 1)])

    def test_a_pick_in_an_again_and_an_again_in_a_pick(self):
        self.check(again(2, X, pick(Z, ONE, TWO)), [
            ("take", 0), ("keep", 2), ("count", 0, 2), ("round", 0, 11),
            ("take", 2), ("unless", 8), ("push", 1), ("go", 9), ("push", 2),
            ("keep", 2), ("go", 3), ("take", 2)])
        self.check(pick(X, again(2, X, Z), ONE), [
            ("take", 0), ("unless", 11), ("take", 0), ("keep", 2), ("count", 0, 2), ("round", 0, 9), ("take", 2),
            ("keep", 2), ("go", 5), ("take", 2), ("go", 12), ("push", 1)])

    def test_a_let_in_an_again(self):
        self.check(again(1, X, ("let", "u", 0, Z, ("name", "u", ()))), [
            ("take", 0), ("keep", 2), ("count", 0, 1), ("round", 0, 9), ("take", 2), ("keep", 3), ("take", 3), ("keep", 2),
            ("go", 3), ("take", 2)])

    def test_a_new_list_each_time(self):
        heads = list(HEADS)
        one = rows_of(BOOK, heads, X)
        one.append(None)
        self.assertEqual(rows_of(BOOK, heads, X), [("take", 0)])
        self.assertEqual(heads, HEADS)


class Longest(unittest.TestCase):
    def test_without_picks(self):
        for reading, steps in (
            (X, 1), (("name", "x", (2, 1)), 3), (ONE, 1), (("number", 1, 0, (0,)), 2),
            (("use", 0, (X,), ()), 2), (("use", 1, (("name", "x", (2, 1)), X), (0,)), 6),
            (("let", "z", 0, X, Z), 3), (("let", "z", 0, ("use", 0, (X,), ()), ("name", "z", (0,))), 5),
            (again(0, X, Z), 5), (again(1, X, Z), 9), (again(9, X, Z), 41), (again(0, X, Z, "z", (2, 1)), 7),
            (again(2, ("use", 0, (X,), ()), ("use", 0, (Z,), (0,))), 18),
            (again(3, X, again(2, Z, ("name", "u", ()), "u")), 5 + 3 * (13 + 3)),
        ):
            with self.subTest(reading=reading):
                self.assertEqual(longest(reading), steps)
                rows = rows_of(BOOK, HEADS, reading)
                self.assertEqual(run(7, rows, [1, 2], 1000)[1], steps)

    def test_picks(self):
        long = ("name", "x", (2, 1))
        longer = ("use", 0, (long,), ())
        # The unless, and the go behind the first side.
        self.assertEqual(longest(pick(X, X, X)), 1 + 1 + 2)
        self.assertEqual(longest(pick(X, long, X)), 1 + 1 + 4)
        self.assertEqual(longest(pick(X, X, long)), 1 + 1 + 3)
        # Longer by one: as long as the other side with its go.
        self.assertEqual(longest(pick(X, long, longer)), 1 + 1 + 4)
        self.assertEqual(longest(pick(X, longer, long)), 1 + 1 + 5)
        self.assertEqual(longest(pick(X, X, ("name", "x", (0,)))), 1 + 1 + 2)
        self.assertEqual(longest(pick(X, ("name", "x", (0,)), X)), 1 + 1 + 3)
        self.assertEqual(longest(pick(long, X, X, (2, 1))), 3 + 1 + 2 + 2)

    def test_picks_in_agains(self):
        inside = pick(Z, ("name", "z", (0,)), ONE)
        self.assertEqual(longest(again(0, X, inside)), 5)
        self.assertEqual(longest(again(4, X, inside)), 5 + 4 * (5 + 3))
        self.assertEqual(longest(again(4, pick(X, X, X), inside)), 8 + 4 * (5 + 3))

    def test_a_side_that_is_gone(self):
        for reading, x in ((pick(X, ("name", "x", (2, 1)), X), 1), (pick(X, X, ("name", "x", (2, 1))), 0),
                           (pick(X, X, X), 1), (pick(X, X, ("name", "x", (0,))), 0)):
            self.assertEqual(run(7, rows_of(BOOK, HEADS, reading), [x, 0], 99)[1], longest(reading))


def has_pick(reading):
    return "pick" in repr(reading)


def most_steps(rows, at=0, tallies=(0, 0, 0), known=None):
    """The most steps that rows can take from there on, each unless going whichever way takes longer."""
    known = {} if known is None else known
    if at == len(rows):
        return 0
    if (at, tallies) not in known:
        row = rows[at]
        after = [(at + 1, tallies)]
        if row[0] == "go":
            after = [(row[1], tallies)]
        elif row[0] == "unless":
            after.append((row[1], tallies))
        elif row[0] == "count":
            after = [(at + 1, tallies[:row[1]] + (row[2],) + tallies[row[1] + 1:])]
        elif row[0] == "round" and tallies[row[1]] > 0:
            after = [(at + 1, tallies[:row[1]] + (tallies[row[1]] - 1,) + tallies[row[1] + 1:])]
        elif row[0] == "round":
            after = [(row[2], tallies)]
        known[(at, tallies)] = 1 + max(most_steps(rows, goal, left, known) for goal, left in after)
    return known[(at, tallies)]


class Whole(unittest.TestCase):
    def test_the_rows_come_to_what_the_reading_is_worth(self):
        chance = random.Random(95)
        seen = {"picks": 0, "others": 0}
        for make_book, seed in ((any_book, 96), (any_aligned_book, 97)):
            for told, heads, part, readings in samples(seed, (3, 9, GREAT), 120, make_book, 14, 300):
                for there in readings:
                    for reading in chance.sample(there, min(3, len(there))):
                        given = any_given(chance, told, heads)
                        self.check(told, heads, reading, given)
                        seen["picks" if has_pick(reading) else "others"] += 1
        self.assertGreater(min(seen.values()), 200, seen)

    def check(self, told, heads, reading, given):
        rows = rows_of(told, heads, reading)
        for row in rows:
            self.assertIs(type(row), tuple)
        most = longest(reading)
        number, steps = run(told[0], rows, [given[x] for x, k in heads], most)
        self.assertEqual(number, naive_value(told, reading, given))
        state = begun(rows, [given[x] for x, k in heads])
        for time in range(steps):
            state = step(told[0], rows, state)
        self.assertEqual(state[:2], (len(rows), [number]))
        if most < 200:
            self.assertEqual(most_steps(rows), most)
        if not has_pick(reading):
            self.assertEqual(steps, most)


if __name__ == "__main__":
    unittest.main()
