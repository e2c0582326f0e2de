"""Even books: the ways' fault [13], makes seen from kinds [14] to [16], the makes' fault [17], both [18], [19]."""

import itertools
import random
import unittest

from chiefway.books import book
from chiefway.looks import chief_make, even, fault, fits, make_fault, seen_form, shortfall, way_fault
from helper import (
    WHEELS, all_kinds, all_tuples, along, any_aligned_book, any_book, naive_chief, naive_fits, naive_fitting, naive_seen,
    naive_shortfall, naive_ways, naive_worth, points)

LINE = [((1,), 1)]
LINE_OF_TWO = [((1, 0), 1)]


def all_books(seed, many):
    """Books of chance, many of them even and many not."""
    chance = random.Random(seed)
    for M in WHEELS:
        for time in range(many):
            yield any_book(chance, M)
            yield any_aligned_book(chance, M)


def naive_way_fault(told):
    for j in all_kinds(told):
        for k in all_kinds(told):
            found = naive_ways(told, j, k)
            for way in found:
                for x in (0, 1):
                    if along(told, found[0], x) != along(told, way, x):
                        return (j, k, found[0], way, x)
    return None


def naive_make_fault(told):
    done = []
    for make in told[3]:
        name, n = make[0], len(make[1])
        if (name, n) in done:
            continue
        done.append((name, n))
        for kinds in itertools.product(all_kinds(told), repeat=n):
            fitting = naive_fitting(told, name, kinds)
            if fitting and naive_chief(told, name, kinds) is None:
                rows = []
                for m in fitting:
                    short = [(v, naive_shortfall(told, m, v, kinds)) for v in fitting]
                    rows.append((m,) + [pair for pair in short if pair[1] is not None][0])
                return (name, kinds, rows)
    return None


class WayFault(unittest.TestCase):
    def test_none(self):
        self.assertIsNone(way_fault(book(5, ["a"], [], [])))
        self.assertIsNone(way_fault(book(5, ["a", "b"], [(0, 1, 2, 3, 0), (0, 1, 2, 3, 1), (0, 1, 7, -2, 2)], [])))
        triangle = [(0, 1, 2, 1, 0), (1, 2, 2, 1, 0), (0, 2, 4, 3, 0)]
        self.assertIsNone(way_fault(book(5, ["a", "b", "c"], triangle, [])))

    def test_by_hand(self):
        told = book(5, ["a", "b"], [(0, 1, 2, 3, 0), (0, 1, 2, 3, 0), (0, 1, 2, 4, 0), (0, 1, 1, 3, 0)], [])
        self.assertEqual(way_fault(told), (0, 1, (0,), (2,), 0))
        told = book(5, ["a", "b"], [(0, 1, 2, 3, 0), (0, 1, 1, 3, 0), (0, 1, 2, 4, 0)], [])
        self.assertEqual(way_fault(told), (0, 1, (0,), (1,), 1))

    def test_the_least_j_ahead_of_the_least_k(self):
        roads = [(1, 2, 1, 0, 0), (1, 2, 2, 0, 0), (0, 3, 1, 0, 0), (0, 3, 1, 1, 0)]
        self.assertEqual(way_fault(book(5, ["a", "b", "c", "d"], roads, [])), (0, 3, (2,), (3,), 0))

    def test_the_least_k_for_it(self):
        roads = [(0, 3, 1, 0, 0), (0, 3, 1, 1, 0), (0, 2, 1, 0, 0), (0, 2, 2, 0, 0), (0, 1, 1, 0, 0)]
        self.assertEqual(way_fault(book(5, ["a", "b", "c", "d"], roads, [])), (0, 2, (2,), (3,), 1))

    def test_ways_of_several_roads(self):
        roads = [(1, 2, 2, 1, 0), (0, 1, 2, 1, 0), (0, 2, 4, 3, 0), (0, 1, 2, 1, 0), (0, 2, 3, 3, 0)]
        self.assertEqual(way_fault(book(5, ["a", "b", "c"], roads, [])), (0, 2, (1, 0), (4,), 1))

    def test_roads_without_inverse(self):
        # What parts on the way comes together again where both roads end at 0 x.
        roads = [(0, 1, 1, 0, 0), (1, 2, 0, 3, 0), (0, 2, 0, 3, 0)]
        self.assertIsNone(way_fault(book(9, ["a", "b", "c"], roads, [])))

    def test_of_any_book(self):
        found = []
        for told in all_books(21, 25):
            found.append(way_fault(told))
            self.assertEqual(found[-1], naive_way_fault(told))
        self.assertGreater(sum(one is None for one in found), 100)
        self.assertGreater(sum(one is not None for one in found), 50)


class Makes(unittest.TestCase):
    # 0 leads to 2 by (1, 0) first, though (2,) turns otherwise; 0 leads to 1, 1 to 2.
    BOOK = book(7, ["a", "b", "c", "d"], [(1, 2, 2, 1, 0), (0, 1, 3, 0, 0), (0, 2, 1, 1, 0)], [
        ("f", (2,), 0, [((2,), 1)], 0),
        ("f", (1, 2), 3, [((1, 1), 1), ((0, 0), 5)], 0),
        ("f", (0,), 1, LINE, 0),
    ])

    def test_fits(self):
        told = self.BOOK
        self.assertEqual([fits(told, 0, (k,)) for k in range(4)], [True, True, True, False])
        self.assertEqual([fits(told, 2, (k,)) for k in range(4)], [True, False, False, False])
        for kinds in itertools.product(range(4), repeat=2):
            self.assertIs(fits(told, 1, kinds), kinds[0] in (0, 1) and kinds[1] in (0, 1, 2))

    def test_fits_as_many_as_it_takes(self):
        for v, n in ((0, 1), (1, 2), (2, 1)):
            for many in (0, 1, 2, 3):
                self.assertIs(fits(self.BOOK, v, (0,) * many), many == n)

    def test_seen_form_by_the_first_way(self):
        self.assertEqual(seen_form(self.BOOK, 0, (2,)), (((2,), 1),))
        # (6 x + 1) to the power 2
        self.assertEqual(seen_form(self.BOOK, 0, (0,)), (((0,), 1), ((1,), 5), ((2,), 1)))
        # (2 x + 1) to the power 2
        self.assertEqual(seen_form(self.BOOK, 0, (1,)), (((0,), 1), ((1,), 4), ((2,), 4)))

    def test_seen_form_of_two(self):
        self.assertEqual(seen_form(self.BOOK, 1, (1, 2)), (((0, 0), 5), ((1, 1), 1)))
        # 3 x times 2 y + 1, and 5
        self.assertEqual(seen_form(self.BOOK, 1, (0, 1)), (((0, 0), 5), ((1, 0), 3), ((1, 1), 6)))

    def test_of_any_book(self):
        for told in all_books(22, 6):
            for v, make in enumerate(told[3]):
                n = len(make[1])
                for kinds in itertools.product(all_kinds(told), repeat=n):
                    self.assertIs(fits(told, v, kinds), naive_fits(told, v, kinds))
                    if fits(told, v, kinds):
                        self.check_seen(told, v, kinds)

    def check_seen(self, told, v, kinds):
        seen = seen_form(told, v, kinds)
        self.assertTrue(all_tuples(seen))
        self.assertEqual(list(seen), sorted(seen))
        for exponents, c in seen:
            self.assertTrue(0 < c < told[0] and len(exponents) == len(kinds) and max(exponents) <= 2)
        for values in points(len(kinds)):
            self.assertEqual(naive_worth(told[0], seen, values), naive_seen(told, v, kinds, values))


class Shortfall(unittest.TestCase):
    ROADS = [(0, 1, 2, 0, 0), (1, 2, 1, 3, 0)]

    def book(self, makes):
        return book(7, ["a", "b", "c", "d"], self.ROADS, makes)

    def test_where_no_way_leads(self):
        told = self.book([("f", (1,), 1, LINE, 0), ("f", (1,), 0, LINE, 0), ("f", (1,), 3, LINE, 0)])
        self.assertEqual(shortfall(told, 0, 1, (0,)), ())
        self.assertEqual(shortfall(told, 0, 2, (0,)), ())
        self.assertEqual(shortfall(told, 2, 1, (0,)), ())

    def test_none(self):
        told = self.book([("f", (0,), 0, LINE, 0), ("f", (1,), 1, LINE, 0), ("f", (0,), 2, [((1,), 2), ((0,), 3)], 0)])
        for m, v in ((0, 1), (0, 2), (1, 2)):
            self.assertIsNone(shortfall(told, m, v, (0,)))
        for m in range(3):
            self.assertIsNone(shortfall(told, m, m, (0,)))

    def test_values(self):
        makes = [("f", (0,), 0, LINE, 0), ("f", (0,), 0, [((2,), 1)], 0), ("f", (0,), 0, [((1,), 1), ((0,), 1)], 0),
                 ("f", (0,), 1, [((1,), 3)], 0)]
        told = self.book(makes)
        self.assertEqual(shortfall(told, 0, 1, (0,)), (2,))
        self.assertEqual(shortfall(told, 1, 0, (0,)), (2,))
        self.assertEqual(shortfall(told, 0, 2, (0,)), (0,))
        self.assertEqual(shortfall(told, 0, 3, (0,)), (1,))
        self.assertEqual(shortfall(told, 3, 0, (0,)), ())

    def test_values_of_two(self):
        makes = [("f", (0, 0), 0, [((1, 0), 1)], 0), ("f", (0, 0), 0, [((1, 0), 1), ((2, 1), 1)], 0),
                 ("f", (0, 0), 0, [((0, 1), 1)], 0)]
        told = self.book(makes)
        self.assertEqual(shortfall(told, 0, 1, (0, 0)), (1, 1))
        self.assertEqual(shortfall(told, 0, 2, (0, 0)), (0, 1))

    def test_of_any_book(self):
        seen = []
        for told in all_books(23, 5):
            for m, v in itertools.product(range(len(told[3])), repeat=2):
                for kinds in itertools.product(all_kinds(told), repeat=len(told[3][m][1])):
                    if naive_fits(told, m, kinds) and naive_fits(told, v, kinds):
                        seen.append(shortfall(told, m, v, kinds))
                        self.assertEqual(seen[-1], naive_shortfall(told, m, v, kinds))
        self.assertEqual([one for one in (None, (), (0,), (1,), (0, 0), (0, 1)) if one not in seen], [])


class ChiefMake(unittest.TestCase):
    def test_the_least_that_falls_short_of_none(self):
        makes = [("f", (0,), 1, LINE, 0), ("g", (0,), 0, LINE, 0), ("f", (0,), 0, [((1,), 3)], 0),
                 ("f", (0,), 0, [((1,), 3)], 9)]
        told = book(5, ["a", "b"], [(0, 1, 2, 0, 0)], makes)
        self.assertEqual(chief_make(told, "f", (0,)), 2)
        self.assertEqual(chief_make(told, "g", (0,)), 1)

    def test_none_has_it_against_all(self):
        makes = [("f", (0,), 0, LINE, 0), ("f", (0,), 0, [((1,), 2)], 0)]
        self.assertIsNone(chief_make(book(5, ["a"], [], makes), "f", (0,)))
        makes = [("f", (0,), 0, LINE, 0), ("f", (0,), 1, LINE, 0)]
        self.assertIsNone(chief_make(book(5, ["a", "b"], [], makes), "f", (0,)))

    def test_where_none_fits_or_there_is_no_such_deed(self):
        told = book(5, ["a", "b"], [(0, 1, 2, 0, 0)], [("f", (0,), 0, LINE, 0)])
        self.assertIsNone(chief_make(told, "f", (1,)))
        self.assertIsNone(chief_make(told, "f", (0, 0)))
        self.assertIsNone(chief_make(told, "g", (0,)))

    def test_the_same_name_with_one_and_with_two(self):
        makes = [("f", (0, 0), 0, [((1, 1), 1)], 0), ("f", (0,), 0, LINE, 0), ("f", (0, 0), 0, [((1, 1), 1)], 0)]
        told = book(5, ["a"], [], makes)
        self.assertEqual(chief_make(told, "f", (0,)), 1)
        self.assertEqual(chief_make(told, "f", (0, 0)), 0)

    def test_makes_that_do_not_fit_do_not_count(self):
        makes = [("f", (0,), 0, LINE, 0), ("f", (1,), 1, [((1,), 4)], 0)]
        told = book(5, ["a", "b"], [(0, 1, 2, 0, 0)], makes)
        self.assertIsNone(chief_make(told, "f", (0,)))
        self.assertEqual(chief_make(told, "f", (1,)), 1)

    def test_of_any_book(self):
        seen = []
        for told in all_books(24, 5):
            for name in ("f", "g", "h"):
                for n in (1, 2):
                    for kinds in itertools.product(all_kinds(told), repeat=n):
                        seen.append(chief_make(told, name, kinds))
                        self.assertEqual(seen[-1], naive_chief(told, name, kinds))
        for one in (None, 0, 1, 2, 3):
            self.assertIn(one, seen)


class Faults(unittest.TestCase):
    def test_no_makes(self):
        self.assertIsNone(make_fault(book(5, ["a", "b"], [], [])))

    def test_rows_for_each_make_that_fits(self):
        makes = [("g", (1,), 0, LINE, 0), ("f", (1,), 1, LINE, 0), ("f", (1,), 0, LINE, 0), ("f", (0,), 0, LINE, 0),
                 ("f", (1,), 1, [((2,), 1)], 0)]
        told = book(5, ["a", "b"], [], makes)
        self.assertEqual(make_fault(told), ("f", (1,), [(1, 2, ()), (2, 1, ()), (4, 1, (2,))]))

    def test_v_is_the_least(self):
        makes = [("f", (0,), 0, LINE, 0), ("f", (0,), 0, LINE, 0), ("f", (0,), 0, [((1,), 2)], 0),
                 ("f", (0,), 0, [((1,), 3)], 0)]
        told = book(5, ["a"], [], makes)
        rows = [(0, 2, (1,)), (1, 2, (1,)), (2, 0, (1,)), (3, 0, (1,))]
        self.assertEqual(make_fault(told), ("f", (0,), rows))

    def test_the_first_deed_by_its_first_make(self):
        bad = [((1,), 2)]
        makes = [("h", (0,), 0, LINE, 0), ("g", (0,), 0, LINE, 0), ("f", (0,), 0, LINE, 0), ("f", (0,), 0, bad, 0),
                 ("g", (0,), 0, bad, 0)]
        self.assertEqual(make_fault(book(5, ["a"], [], makes))[0], "g")

    def test_the_same_name_with_one_and_with_two_are_two_deeds(self):
        makes = [("f", (0, 0), 0, [((1, 1), 1)], 0), ("f", (0,), 0, LINE, 0)]
        self.assertIsNone(make_fault(book(5, ["a"], [], makes)))
        makes = [("f", (0, 0), 0, [((1, 1), 1)], 0), ("f", (0,), 0, LINE, 0), ("f", (0,), 0, [], 0),
                 ("f", (0, 0), 0, [((1, 0), 1)], 0)]
        told = book(5, ["a"], [], makes)
        self.assertEqual(make_fault(told), ("f", (0, 0), [(0, 3, (1, 0)), (3, 0, (1, 0))]))

    def test_the_first_kinds(self):
        makes = [("f", (0, 1), 0, [((1, 1), 1)], 0), ("f", (0, 1), 1, [((1, 1), 1)], 0)]
        told = book(5, ["a", "b"], [], makes)
        self.assertEqual(make_fault(told), ("f", (0, 1), [(0, 1, ()), (1, 0, ())]))
        makes = [("f", (1, 0), 0, LINE_OF_TWO, 0), ("f", (0, 1), 0, LINE_OF_TWO, 0), ("f", (1, 0), 0, [], 0)]
        told = book(5, ["a", "b"], [], makes)
        self.assertEqual(make_fault(told), ("f", (1, 0), [(0, 2, (1, 0)), (2, 0, (1, 0))]))

    def test_kinds_that_no_make_fits_are_no_fault(self):
        told = book(5, ["a", "b", "c"], [(0, 1, 1, 0, 0)], [("f", (1,), 0, LINE, 0)])
        self.assertIsNone(make_fault(told))
        self.assertIs(even(told), True)

    def test_a_new_list_each_time(self):
        told = book(5, ["a", "b"], [], [("f", (0,), 0, LINE, 0), ("f", (0,), 1, LINE, 0)])
        one = make_fault(told)[2]
        other = fault(told)[3]
        one.clear()
        other.append(None)
        self.assertEqual(make_fault(told)[2], [(0, 1, ()), (1, 0, ())])
        self.assertEqual(fault(told)[3], [(0, 1, ()), (1, 0, ())])

    def test_the_ways_come_ahead_of_the_makes(self):
        roads = [(0, 1, 1, 0, 0), (0, 1, 2, 0, 0)]
        makes = [("f", (0,), 0, LINE, 0), ("f", (0,), 0, [], 0)]
        told = book(5, ["a", "b"], roads, makes)
        self.assertEqual(fault(told), ("ways", 0, 1, (0,), (1,), 1))
        self.assertEqual(make_fault(told), ("f", (0,), [(0, 1, (1,)), (1, 0, (1,))]))
        told = book(5, ["a", "b"], roads[:1], makes)
        self.assertEqual(fault(told), ("makes", "f", (0,), [(0, 1, (1,)), (1, 0, (1,))]))
        self.assertIsNone(fault(book(5, ["a", "b"], roads[:1], makes[:1])))
        self.assertEqual([even(book(5, ["a", "b"], roads[:r], makes[:m])) for r in (1, 2) for m in (1, 2)],
                         [True, False, False, False])

    def test_of_any_book(self):
        found = []
        for told in all_books(25, 12):
            kept = repr(told)
            one = naive_way_fault(told)
            other = naive_make_fault(told)
            self.assertEqual(make_fault(told), other)
            whole = ("ways",) + one if one else ("makes",) + other if other else None
            self.assertEqual(fault(told), whole)
            self.assertIs(even(told), whole is None)
            self.assertEqual(repr(told), kept)
            found.append(whole and whole[0])
        for one in (None, "ways", "makes"):
            self.assertGreater(found.count(one), 20)

    def test_a_great_book(self):
        chance = random.Random(9)
        terms = [((x, y), chance.randrange(10 ** 60)) for x in range(3) for y in range(3)]
        roads = [(n // 3, n // 3 + 1, 1, 0, 0) for n in range(12)]
        makes = [(name, (4, 4), 4, terms, 0) for name in ("f", "g", "h") for make in range(5)]
        told = book(10 ** 60 - 1, ["a", "b", "c", "d", "e", "g"], roads, makes)
        self.assertIs(even(told), True)
        self.assertEqual(chief_make(told, "h", (0, 1)), 10)


if __name__ == "__main__":
    unittest.main()
