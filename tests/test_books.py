"""Names [9] and books: what they are [10], how they are made and what is refused [11]."""

import unittest

from chiefway.books import book, is_name
from chiefway.errors import ChiefError, NoKind, NoMake, NoRoad, NoWheel
from helper import GREAT, all_tuples

PRICE = 10 ** 30
SIXTY = int("7" * 60)
KINDS = ["a", "b", "c", "d", "e", "f"]
ROAD = (0, 1, 2, 3, 4)
MAKE = ("f", (0,), 1, [((1,), 2)], 3)


def changed(thing, place, value):
    things = list(thing)
    things[place] = value
    return tuple(things)


class Names(unittest.TestCase):
    def test_one_to_eight_small_letters(self):
        for text in ("a", "z", "cm", "abcdefgh", "zzzzzzzz", "azaz"):
            with self.subTest(text=text):
                self.assertIs(is_name(text), True)

    def test_none_and_nine(self):
        for text in ("", "abcdefghi", "a" * 100):
            self.assertIs(is_name(text), False)

    def test_other_signs_wherever_they_stand(self):
        signs = [chr(n) for n in range(128) if not "a" <= chr(n) <= "z"]
        signs += ["\u00e4", "\u03b1", "\u00df", "\u2009", "\u0660"]
        for sign in signs:
            for text in (sign, sign + "ab", "a" + sign + "b", "ab" + sign):
                with self.subTest(text=text):
                    self.assertIs(is_name(text), False)

    def test_the_four_words(self):
        for text in ("let", "in", "pick", "again"):
            self.assertIs(is_name(text), False)

    def test_texts_with_the_four_words_in_them(self):
        for text in ("lets", "alet", "le", "inn", "ain", "i", "n", "picks", "apick", "pic", "agains", "aagain", "agai",
                     "gain", "letin", "inin"):
            with self.subTest(text=text):
                self.assertIs(is_name(text), True)


class Told(unittest.TestCase):
    def test_by_hand(self):
        told = book(7, ["cm", "sq"], [(0, 1, 9, -1, 5)], [("area", (0, 0), 1, [((1, 1), 8), ((0, 0), -2)], 6)])
        self.assertEqual(told, (
            7,
            ("cm", "sq"),
            ((0, 1, 2, 6, 5),),
            (("area", (0, 0), 1, (((0, 0), 5), ((1, 1), 1)), 6),),
        ))

    def test_the_least_book(self):
        self.assertEqual(book(3, ["a"], [], []), (3, ("a",), (), ()))

    def test_tuples_texts_and_whole_numbers_all_through(self):
        told = book(GREAT, KINDS, [ROAD] * 12, [MAKE] * 6 + [("f", (1, 2), 0, [((0, 2), 1)], 0)] * 6 + [
            ("g", (5,), 5, [], PRICE)])
        self.assertTrue(all_tuples(told))
        self.assertEqual([len(one) for one in told[1:]], [6, 12, 13])

    def test_turns_come_onto_the_wheel(self):
        told = book(5, ["a", "b"], [(0, 1, SIXTY, -SIXTY, 0), (0, 1, 5, -5, 0), (0, 1, 4, 0, 0)], [])
        self.assertEqual(told[2], ((0, 1, 2, 3, 0), (0, 1, 0, 0, 0), (0, 1, 4, 0, 0)))

    def test_forms_are_made(self):
        terms = [((2,), 1), ((0,), 3), ((1,), 4), ((1,), 1), ((2,), 0), ((0,), -1)]
        self.assertEqual(book(5, ["a"], [], [("f", (0,), 0, terms, 0)])[3][0][3], (((0,), 2), ((2,), 1)))
        terms = [((2, 0), 1), ((0, 2), 6), ((1, 1), 5), ((2, 0), 1)]
        self.assertEqual(book(5, ["a"], [], [("f", (0, 0), 0, terms, 0)])[3][0][3], (((0, 2), 1), ((2, 0), 2)))

    def test_roads_and_makes_keep_their_order(self):
        roads = [(0, 2, 1, 1, 0), (0, 1, 1, 0, 0), (1, 2, 1, 0, 7), (0, 1, 1, 0, 0)]
        makes = [("g", (1,), 0, [], 1), ("f", (1,), 0, [], 0), ("g", (0,), 2, [], 0)]
        told = book(5, ["z", "b", "a"], roads, makes)
        self.assertEqual(told[1], ("z", "b", "a"))
        self.assertEqual(told[2], tuple(roads))
        self.assertEqual([make[0] for make in told[3]], ["g", "f", "g"])

    def test_what_is_handed_in_stays(self):
        kinds = ["a", "b"]
        roads = [(0, 1, -1, 9, 0)]
        terms = [((2,), 1), ((1,), -1), ((2,), 1)]
        makes = [("f", (0,), 1, terms, 0)]
        told = book(5, kinds, roads, makes)
        self.assertEqual(kinds, ["a", "b"])
        self.assertEqual(roads, [(0, 1, -1, 9, 0)])
        self.assertEqual(terms, [((2,), 1), ((1,), -1), ((2,), 1)])
        self.assertEqual(makes, [("f", (0,), 1, terms, 0)])
        kept = repr(told)
        kinds.append("c")
        roads.clear()
        terms.append(((0,), 1))
        makes.clear()
        self.assertEqual(repr(told), kept)
        self.assertEqual(told, (5, ("a", "b"), ((0, 1, 4, 4, 0),), (("f", (0,), 1, (((1,), 4), ((2,), 2)), 0),)))


class Refused(unittest.TestCase):
    def refused(self, error, M, kinds, roads, makes):
        with self.assertRaises(ChiefError) as caught:
            book(M, kinds, roads, makes)
        self.assertIs(type(caught.exception), error)

    def test_wheels(self):
        for M in (2, 1, 0, -3, 4, 10 ** 60, 10 ** 60 + 1):
            self.refused(NoWheel, M, ["a"], [], [])

    def test_kinds(self):
        for kinds in ([], KINDS + ["g"], ["a", "a"], ["a", "b", "a"], ["b", "c", "d", "c"], ["let"], ["a", "in"],
                      ["pick", "a"], ["a", "b", "again"], [""], ["A"], ["a", "abcdefghi"], ["a\n"], ["a b"], ["a", "b1"]):
            with self.subTest(kinds=kinds):
                self.refused(NoKind, 5, kinds, [], [])
        for many in range(1, 7):
            self.assertEqual(len(book(5, KINDS[:many], [], [])[1]), many)

    def test_how_many_roads(self):
        self.assertEqual(len(book(5, ["a", "b"], [ROAD] * 12, [])[2]), 12)
        self.refused(NoRoad, 5, ["a", "b"], [ROAD] * 13, [])

    def test_roads(self):
        wrong = [(1, 0, 0, 0, 0), (0, 0, 0, 0, 0), (1, 1, 0, 0, 0), (-1, 0, 0, 0, 0), (-1, 1, 0, 0, 0), (-2, -1, 0, 0, 0),
                 (0, 3, 0, 0, 0), (2, 3, 0, 0, 0), (3, 4, 0, 0, 0), (0, SIXTY, 0, 0, 0), (-SIXTY, 1, 0, 0, 0),
                 (2, 1, 0, 0, 0), (0, -1, 0, 0, 0), (0, 1, 0, 0, -1), (0, 1, 0, 0, PRICE + 1), (0, 1, 0, 0, -PRICE),
                 (1, 2, 0, 0, SIXTY)]
        for road in wrong:
            for place in range(3):
                roads = [(0, 1, 2, 3, 0), (1, 2, 2, 3, PRICE)]
                roads.insert(place, road)
                with self.subTest(roads=roads):
                    self.refused(NoRoad, 5, ["a", "b", "c"], roads, [])

    def test_how_many_makes(self):
        sixteen = [changed(MAKE, 0, name) for name in ("a", "b", "c", "d") for make in range(4)]
        self.assertEqual(len(book(5, ["a", "b"], [], sixteen)[3]), 16)
        self.refused(NoMake, 5, ["a", "b"], [], sixteen + [changed(MAKE, 0, "e")])

    def test_how_many_of_one_deed(self):
        two = ("f", (0, 1), 1, [((1, 1), 2)], 3)
        self.assertEqual(len(book(5, ["a", "b"], [], [MAKE] * 6 + [two] * 6)[3]), 12)
        self.refused(NoMake, 5, ["a", "b"], [], [MAKE] * 7)
        self.refused(NoMake, 5, ["a", "b"], [], [two] * 7)
        self.refused(NoMake, 5, ["a", "b"], [], [two, MAKE, changed(MAKE, 0, "g")] + [MAKE] * 5 + [two, MAKE])

    def wrong_make(self, make, n):
        good = ("g", (0,) * n, 1, [((2,) * n, 1), ((0,) * n, 0)], PRICE)
        self.assertEqual(len(book(5, ["a", "b"], [], [good, good])[3]), 2)
        for place in range(3):
            makes = [good, good]
            makes.insert(place, make)
            with self.subTest(makes=makes):
                self.refused(NoMake, 5, ["a", "b"], [], makes)

    def test_names_of_makes(self):
        for name in ("", "let", "in", "pick", "again", "F", "f1", "f ", "f\n", "abcdefghi"):
            self.wrong_make(changed(MAKE, 0, name), 1)

    def test_what_makes_take(self):
        for takes in ((), (0, 0, 0), (2,), (-1,), (0, 2), (2, 0), (-1, 0), (0, -1), (SIXTY,), (0, -SIXTY), (0, 1, 0, 1)):
            for terms in ([], [((0,) * len(takes), 1)]):
                self.wrong_make(("f", takes, 0, terms, 0), 1)

    def test_what_makes_give(self):
        for gives in (-1, 2, SIXTY, -SIXTY):
            self.wrong_make(changed(MAKE, 2, gives), 1)

    def test_prices_of_makes(self):
        for price in (-1, PRICE + 1, SIXTY, -SIXTY):
            self.wrong_make(changed(MAKE, 4, price), 1)

    def test_terms_of_makes(self):
        wrong = {
            1: ((), (1, 1), (0, 0), (-1,), (3,), (8,), (9,), (SIXTY,), (-SIXTY,)),
            2: ((), (1,), (0,), (0, 0, 0), (-1, 0), (0, -1), (3, 0), (0, 3), (2, 8), (9, 2), (0, SIXTY)),
        }
        for n in (1, 2):
            for exponents in wrong[n]:
                for c in (1, 0, 5, -SIXTY):
                    for place in range(3):
                        terms = [((1,) * n, 1), ((0,) * n, 2)]
                        terms.insert(place, (exponents, c))
                        self.wrong_make(("f", (0,) * n, 1, terms, 0), n)
        self.wrong_make(("f", (0,), 1, [((3,), 1), ((3,), -1)], 0), 1)

    def test_the_order_of_the_refusals(self):
        bad_road = (1, 0, 0, 0, 0)
        bad_make = changed(MAKE, 4, -1)
        self.refused(NoWheel, 4, [], [bad_road], [bad_make])
        self.refused(NoWheel, 4, ["a", "b"], [], [bad_make])
        self.refused(NoKind, 5, [], [bad_road], [bad_make])
        self.refused(NoKind, 5, ["a", "a"], [], [bad_make])
        self.refused(NoKind, 5, ["a", "in"], [bad_road], [])
        self.refused(NoRoad, 5, ["a", "b"], [bad_road], [bad_make])
        self.refused(NoRoad, 5, ["a", "b"], [ROAD] * 13, [MAKE] * 17)
        self.refused(NoRoad, 5, ["a", "b"], [ROAD] * 12 + [bad_road], [("", (), 9, [((9,), 1)], -1)])
        self.refused(NoMake, 5, ["a", "b"], [ROAD], [bad_make])


if __name__ == "__main__":
    unittest.main()
