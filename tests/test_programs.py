"""Parts and places [20], programs and what is refused [21]."""

import random
import unittest

from chiefway.books import book
from chiefway.errors import ChiefError, NoDeed, NoHead, NoKind, NoName, NoNumber, TooBig
from chiefway.programs import depth_of, inner, lets_in, part_at, parts_in, program
from helper import all_tuples, any_book, any_heads, any_part

SIXTY = int("7" * 60)
BOOK = book(7, ["a", "b", "c"], [(0, 1, 1, 0, 0)], [
    ("f", (0,), 0, [((1,), 1)], 0),
    ("g", (0, 1), 0, [((1, 1), 1)], 0),
    ("both", (0,), 0, [], 0),
    ("both", (0, 0), 0, [], 0),
])
ONE = ("number", 1, 0)
TWO = ("number", 2, 1)
THREE = ("number", 3, 2)
X = ("name", "x")


def use(*args):
    return ("use", "f" if len(args) == 1 else "g", args)


def deep(n, part=ONE):
    """A part that stands in n uses."""
    for layer in range(n):
        part = use(part)
    return part


def wide(n):
    """A part of n parts, n odd, not very deep."""
    if n == 1:
        return ONE
    half = (n - 1) // 2
    half -= 1 - half % 2
    return use(wide(half), wide(n - 1 - half))


def let(x, one, two):
    return ("let", x, one, two)


def again(one, two, x="x", n=2, k=0):
    return ("again", n, k, x, one, two)


class Parts(unittest.TestCase):
    def test_inner_of_each_kind_of_part(self):
        self.assertEqual(inner(X), ())
        self.assertEqual(inner(ONE), ())
        self.assertEqual(inner(("use", "f", ())), ())
        self.assertEqual(inner(("use", "f", (ONE,))), (ONE,))
        self.assertEqual(inner(("use", "f", (ONE, TWO))), (ONE, TWO))
        self.assertEqual(inner(("use", "f", (ONE, TWO, THREE))), (ONE, TWO, THREE))
        self.assertEqual(inner(let("x", ONE, TWO)), (ONE, TWO))
        self.assertEqual(inner(("pick", 0, 1, ONE, TWO, THREE)), (ONE, TWO, THREE))
        self.assertEqual(inner(again(ONE, TWO)), (ONE, TWO))
        for part in (X, ONE, use(ONE), let("x", ONE, TWO), ("pick", 0, 1, ONE, TWO, THREE), again(ONE, TWO)):
            self.assertIs(type(inner(part)), tuple)

    def test_part_at(self):
        body = let("x", use(ONE, ("pick", 0, 1, X, TWO, again(THREE, use(X)))), X)
        self.assertEqual(part_at(body, ()), body)
        self.assertEqual(part_at(body, (1,)), X)
        self.assertEqual(part_at(body, (0, 0)), ONE)
        self.assertEqual(part_at(body, (0, 1, 0)), X)
        self.assertEqual(part_at(body, (0, 1, 1)), TWO)
        self.assertEqual(part_at(body, (0, 1, 2)), again(THREE, use(X)))
        self.assertEqual(part_at(body, (0, 1, 2, 0)), THREE)
        self.assertEqual(part_at(body, (0, 1, 2, 1, 0)), X)
        self.assertEqual(part_at(X, ()), X)

    def test_parts_lets_and_depth(self):
        for part, parts, lets, depth in (
            (X, 1, 0, 1), (ONE, 1, 0, 1), (("use", "f", ()), 1, 0, 1), (use(ONE), 2, 0, 2), (use(ONE, TWO), 3, 0, 2),
            (use(("use", "f", ()), use(X)), 4, 0, 3),
            (let("x", ONE, X), 3, 1, 2), (let("x", let("y", ONE, use(X)), X), 6, 2, 4),
            (let("x", ONE, let("y", ONE, let("z", X, X))), 7, 3, 4),
            (("pick", 0, 0, ONE, let("x", ONE, X), use(use(ONE))), 8, 1, 4),
            (again(use(ONE), X), 4, 0, 3), (again(ONE, again(X, X, "y")), 5, 0, 3),
            (deep(59), 60, 0, 60), (wide(199), 199, 0, depth_of(wide(199))),
        ):
            self.assertEqual((parts_in(part), lets_in(part), depth_of(part)), (parts, lets, depth))


class Told(unittest.TestCase):
    def test_by_hand(self):
        heads = [("x", 0), ("y", 2)]
        body = let("z", use(X), ("pick", 0, 1, X, ("name", "y"), again(X, use(("name", "u"), ("name", "z")), "u")))
        told = program(BOOK, heads, body)
        self.assertEqual(told, ((("x", 0), ("y", 2)), body))
        self.assertTrue(all_tuples(told))
        self.assertEqual(heads, [("x", 0), ("y", 2)])
        heads.clear()
        self.assertEqual(told[0], (("x", 0), ("y", 2)))

    def test_without_heads(self):
        self.assertEqual(program(BOOK, [], ONE), ((), ONE))

    def test_one_name_in_parts_that_do_not_stand_in_one_another(self):
        for body in (
            use(let("x", ONE, X), let("x", ONE, X)),
            let("x", let("x", ONE, X), X),
            again(again(ONE, X), X),
            use(let("x", ONE, X), again(ONE, X)),
            let("x", again(ONE, X), X),
        ):
            self.assertEqual(program(BOOK, [], body), ((), body))

    def test_names_of_kinds_and_deeds_are_free(self):
        body = let("f", ONE, use(("name", "f"), ("name", "a")))
        self.assertEqual(program(BOOK, [("a", 0), ("g", 1)], body), ((("a", 0), ("g", 1)), body))

    def test_numbers_at_the_edges(self):
        for part in (("number", 0, 0), ("number", 6, 2), again(ONE, X, "x", 0, 2), again(ONE, X, "x", 9, 0)):
            self.assertEqual(program(BOOK, [], part)[1], part)

    def test_of_any_book(self):
        chance = random.Random(31)
        for time in range(300):
            told = any_book(chance, 5)
            heads = any_heads(chance, told, 3)
            body = any_part(chance, told, [x for x, k in heads], chance.randrange(1, 30))
            self.assertEqual(program(told, heads, body), (tuple(heads), body))


class Refused(unittest.TestCase):
    def refused(self, error, heads, body):
        kept = list(heads)
        with self.assertRaises(ChiefError) as caught:
            program(BOOK, heads, body)
        self.assertIs(type(caught.exception), error)
        self.assertEqual(heads, kept)

    def test_heads(self):
        six = [(x, 0) for x in ("x", "y", "z", "u", "v", "w")]
        self.assertEqual(len(program(BOOK, six, X)[0]), 6)
        self.refused(NoHead, six + [("t", 0)], X)
        for wrong in (("", 0), ("let", 0), ("in", 0), ("X", 0), ("abcdefghi", 0), ("x\n", 0), ("y", 0), ("z", 1),
                      ("t", -1), ("t", 3), ("t", SIXTY), ("t", -SIXTY)):
            heads = [("y", 0), ("z", 2)]
            for place in range(3):
                heads.insert(place, wrong)
                self.refused(NoHead, heads, ONE)
                heads.pop(place)

    def test_heads_come_first(self):
        self.refused(NoHead, [("x", 3)], deep(30))
        self.refused(NoHead, [("x", 0), ("x", 0)], ("name", "y"))

    def test_sixty_parts(self):
        body = use(wide(59))
        self.assertEqual((parts_in(body), program(BOOK, [], body)[1]), (60, body))
        self.assertEqual(parts_in(wide(61)), 61)
        self.refused(TooBig, [], wide(61))

    def test_two_lets(self):
        two = let("x", ONE, let("y", X, X))
        self.assertEqual(program(BOOK, [], two)[1], two)
        self.refused(TooBig, [], let("x", ONE, let("y", X, let("z", X, X))))
        self.refused(TooBig, [], use(two, let("x", ONE, X)))
        self.refused(TooBig, [], let("x", let("x", ONE, X), let("y", X, X)))

    def test_twenty_four_deep(self):
        self.assertEqual(program(BOOK, [], deep(23))[1], deep(23))
        self.refused(TooBig, [], deep(24))
        self.refused(TooBig, [], deep(59))
        self.refused(TooBig, [], use(ONE, deep(23)))

    def test_agains_in_one_another(self):
        y, z = ("name", "y"), ("name", "z")
        two = again(ONE, again(X, y, "y"))
        self.assertEqual(program(BOOK, [], two)[1], two)
        for body in (
            again(ONE, again(X, again(y, z, "z"), "y")),
            again(ONE, again(X, use(again(y, z, "z")), "y")),
            again(ONE, use(again(X, ("pick", 0, 0, ONE, ONE, again(y, z, "z")), "y"))),
            again(ONE, again(X, let("u", again(y, z, "z"), ONE), "y")),
            again(again(ONE, again(X, again(y, z, "z"), "y")), X),
            again(ONE, again(again(X, again(X, z, "z"), "u"), y, "y")),
        ):
            self.refused(TooBig, [], body)
        for body in (
            again(ONE, again(again(X, z, "z"), y, "y")),
            again(again(again(ONE, X), X), X),
            again(again(ONE, again(X, y, "y")), again(X, y, "y")),
            again(ONE, again(again(X, y, "y"), y, "y")),
            again(again(ONE, again(X, y, "y")), X),
        ):
            self.assertEqual(program(BOOK, [], body)[1], body)

    def test_size_comes_ahead_of_wrong_parts(self):
        self.refused(TooBig, [], deep(24, X))
        self.refused(TooBig, [], let("let", X, let("y", X, let("z", X, X))))
        self.refused(TooBig, [], ("use", "nodeed", (ONE,) * 60))

    def test_names_that_are_not_known(self):
        self.refused(NoName, [], X)
        self.refused(NoName, [("y", 0)], X)
        self.refused(NoName, [], let("x", X, ONE))
        self.refused(NoName, [], again(X, ONE))
        self.refused(NoName, [], use(let("x", ONE, X), X))
        self.refused(NoName, [], use(again(ONE, X), X))
        self.refused(NoName, [], ("pick", 0, 0, let("x", ONE, X), ONE, X))
        self.refused(NoName, [], ("name", ""))
        self.refused(NoName, [], ("name", "let"))

    def test_names_of_lets_and_agains(self):
        for x in ("", "let", "in", "pick", "again", "X", "abcdefghi", "x ", "1"):
            self.refused(NoName, [], let(x, ONE, ONE))
            self.refused(NoName, [], again(ONE, ONE, x))
        self.refused(NoName, [("x", 0)], let("x", ONE, X))
        self.refused(NoName, [("x", 0)], again(ONE, X))
        self.refused(NoName, [], let("x", ONE, let("x", X, X)))
        self.refused(NoName, [], let("x", ONE, again(X, X)))
        self.refused(NoName, [], again(ONE, let("x", X, X)))
        self.refused(NoName, [], again(ONE, use(again(X, X))))

    def test_numbers(self):
        for n in (7, 8, -1, -7, SIXTY, -SIXTY):
            self.refused(NoNumber, [], ("number", n, 0))
            self.refused(NoNumber, [], use(("number", n, 0)))
        for n in (-1, 10, SIXTY, -SIXTY):
            self.refused(NoNumber, [], again(ONE, X, "x", n))

    def test_kinds(self):
        for k in (-1, 3, SIXTY, -SIXTY):
            self.refused(NoKind, [], ("number", 0, k))
            self.refused(NoKind, [], ("pick", k, 0, ONE, ONE, ONE))
            self.refused(NoKind, [], ("pick", 0, k, ONE, ONE, ONE))
            self.refused(NoKind, [], again(ONE, X, "x", 2, k))

    def test_deeds(self):
        for f, args in (("h", (ONE,)), ("f", (ONE, ONE)), ("g", (ONE,)), ("f", ()), ("g", (ONE, ONE, ONE)), ("", (ONE,)),
                        ("both", ()), ("both", (ONE, ONE, ONE)), ("let", (ONE,)), ("F", (ONE,)), ("a", (ONE,))):
            self.refused(NoDeed, [], ("use", f, args))
            self.refused(NoDeed, [], use(ONE, ("use", f, args)))
        for args in ((ONE,), (ONE, ONE)):
            self.assertEqual(program(BOOK, [], ("use", "both", args))[1], ("use", "both", args))

    def test_parts_that_are_wrong_in_two_ways(self):
        self.refused(NoNumber, [], ("number", 7, 3))
        self.refused(NoNumber, [], again(ONE, ONE, "let", 10, 3))
        self.refused(NoNumber, [], again(ONE, ONE, "x", 10, 3))
        self.refused(NoNumber, [], again(ONE, ONE, "let", -1, 0))
        self.refused(NoKind, [], again(ONE, ONE, "let", 9, 3))
        self.refused(NoKind, [("x", 0)], again(ONE, ONE, "x", 9, -1))

    def test_a_part_comes_ahead_of_what_stands_in_it(self):
        self.refused(NoDeed, [], ("use", "h", (X,)))
        self.refused(NoDeed, [], ("use", "h", (("number", 7, 0),)))
        self.refused(NoName, [], let("let", ("number", 7, 0), ONE))
        self.refused(NoKind, [], ("pick", 0, 3, X, X, X))
        self.refused(NoNumber, [], again(("number", 0, 3), X, "x", 10))
        self.refused(NoName, [], again(("number", 0, 3), X, "let"))

    def test_from_left_to_right(self):
        wrong = ((NoName, X), (NoNumber, ("number", 7, 0)), (NoKind, ("number", 0, 3)), (NoDeed, ("use", "h", (ONE,))))
        for error, part in wrong:
            for other_error, other in wrong:
                self.refused(error, [], use(part, other))
                self.refused(error, [], use(ONE, use(deep(3, part), other)))
                self.refused(error, [], use(use(ONE, part), other))
                self.refused(error, [], let("y", part, other))
                self.refused(error, [], again(part, other, "y"))
                self.refused(error, [], ("pick", 0, 0, part, other, other))
                self.refused(error, [], ("pick", 0, 0, ONE, part, other))
                self.refused(error, [], ("pick", 0, 0, ONE, ONE, part))


if __name__ == "__main__":
    unittest.main()
