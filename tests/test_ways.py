"""Ways from kind to kind [12]."""

import random
import unittest

from chiefway.books import book
from chiefway.ways import first_way, is_way, leads, turn_of, way_price, ways
from helper import WHEELS, all_kinds, along, any_book, naive_ways

SIXTY = int("7" * 60)
# From 0 to 3 over 1, over 2, over both and straight on; two roads from 0 to 1; nothing leads to 4.
BOOK = book(7, ["a", "b", "c", "d", "e"], [
    (1, 3, 2, 1, 10),
    (0, 1, 3, 0, 1),
    (0, 3, 1, 1, 100),
    (0, 1, 1, 5, 2),
    (2, 3, 4, 4, 20),
    (1, 2, 6, 2, 5),
    (0, 2, 2, 2, 7),
], [])
FROM_0_TO_3 = [(1, 0), (1, 5, 4), (2,), (3, 0), (3, 5, 4), (6, 4)]


class Ways(unittest.TestCase):
    def test_by_hand(self):
        self.assertEqual(ways(BOOK, 0, 3), FROM_0_TO_3)
        self.assertEqual(ways(BOOK, 0, 1), [(1,), (3,)])
        self.assertEqual(ways(BOOK, 0, 2), [(1, 5), (3, 5), (6,)])
        self.assertEqual(ways(BOOK, 1, 3), [(0,), (5, 4)])
        self.assertEqual(ways(BOOK, 2, 3), [(4,)])

    def test_from_a_kind_to_itself(self):
        for kind in all_kinds(BOOK):
            self.assertEqual(ways(BOOK, kind, kind), [()])

    def test_none_leads_back_or_on(self):
        for j in all_kinds(BOOK):
            for k in range(j):
                self.assertEqual(ways(BOOK, j, k), [])
        for j in range(4):
            self.assertEqual(ways(BOOK, j, 4), [])
        self.assertEqual(ways(book(3, ["a", "b"], [], []), 0, 1), [])

    def test_of_any_book(self):
        chance = random.Random(3)
        for M in WHEELS:
            for time in range(20):
                told = any_book(chance, M)
                for j in all_kinds(told):
                    for k in all_kinds(told):
                        self.assertEqual(ways(told, j, k), naive_ways(told, j, k))

    def test_very_many(self):
        roads = [(n // 3, n // 3 + 1, 1, 0, 1) for n in range(12)]
        told = book(3, ["a", "b", "c", "d", "e"], roads[::-1], [])
        found = ways(told, 0, 4)
        self.assertEqual(len(found), 81)
        self.assertEqual(found, sorted(found))
        self.assertEqual(found[0], (9, 6, 3, 0))

    def test_ten_and_more_are_sorted_as_numbers(self):
        told = book(3, ["a", "b"], [(0, 1, 1, 0, 0)] * 12, [])
        self.assertEqual(ways(told, 0, 1), [(n,) for n in range(12)])

    def test_a_new_list_each_time(self):
        for j, k in ((0, 3), (0, 0), (3, 0)):
            one = ways(BOOK, j, k)
            kept = list(one)
            one.append((99,))
            self.assertEqual(ways(BOOK, j, k), kept)
            self.assertIsNot(ways(BOOK, j, k), ways(BOOK, j, k))


class IsWay(unittest.TestCase):
    def test_all_ways_and_no_others(self):
        tries = [()]
        for length in range(3):
            tries += [one + (road,) for one in tries for road in range(-2, 9) if len(one) == length]
        for j in all_kinds(BOOK):
            for k in all_kinds(BOOK):
                found = naive_ways(BOOK, j, k)
                for way in tries:
                    self.assertIs(is_way(BOOK, j, k, way), way in found, (j, k, way))

    def test_roads_that_there_are_not(self):
        for road in (-1, -2, -7, 7, 8, SIXTY, -SIXTY, 2 ** 64):
            self.assertIs(is_way(BOOK, 0, 3, (road,)), False)
            self.assertIs(is_way(BOOK, 0, 3, (1, road)), False)
            self.assertIs(is_way(BOOK, 0, 3, (road, 0)), False)
            self.assertIs(is_way(BOOK, 0, 3, (1, 0, road)), False)

    def test_a_road_too_few_too_many_or_twice(self):
        self.assertIs(is_way(BOOK, 0, 3, (1, 5, 4)), True)
        for way in ((1, 4), (5, 4), (1, 5), (1, 1, 5, 4), (1, 5, 5, 4), (1, 5, 4, 4), (1, 3, 0), (4, 5, 1), (), (0,)):
            with self.subTest(way=way):
                self.assertIs(is_way(BOOK, 0, 3, way), False)

    def test_the_wrong_end(self):
        self.assertIs(is_way(BOOK, 0, 2, (1, 0)), False)
        self.assertIs(is_way(BOOK, 1, 3, (1, 0)), False)
        self.assertIs(is_way(BOOK, 3, 0, (1, 0)), False)
        self.assertIs(is_way(BOOK, 0, 1, ()), False)
        self.assertIs(is_way(BOOK, 1, 0, ()), False)
        self.assertIs(is_way(BOOK, 4, 4, ()), True)


class Others(unittest.TestCase):
    def test_leads_and_first_way(self):
        chance = random.Random(4)
        books = [BOOK] + [any_book(chance, 5) for time in range(60)]
        for told in books:
            for j in all_kinds(told):
                for k in all_kinds(told):
                    found = naive_ways(told, j, k)
                    self.assertIs(leads(told, j, k), len(found) > 0)
                    self.assertEqual(first_way(told, j, k), found[0] if found else None)

    def test_first_way_by_hand(self):
        self.assertEqual(first_way(BOOK, 0, 3), (1, 0))
        self.assertEqual(first_way(BOOK, 2, 2), ())
        self.assertIsNone(first_way(BOOK, 3, 0))
        self.assertIsNone(first_way(BOOK, 0, 4))
        # The road with the least number goes to a dead end.
        told = book(3, ["a", "b", "c", "d"], [(0, 1, 1, 0, 0), (2, 3, 1, 0, 0), (0, 2, 1, 0, 0)], [])
        self.assertEqual(first_way(told, 0, 3), (2, 1))

    def test_turn_of(self):
        self.assertEqual(turn_of(BOOK, ()), (1, 0))
        self.assertEqual(turn_of(BOOK, (3,)), (1, 5))
        # x, x + 5, 2 (x + 5) + 1 (and not (2 x + 1) + 5)
        self.assertEqual(turn_of(BOOK, (3, 0)), (2, 4))
        # x, 3 x, 18 x + 2, 72 x + 12
        self.assertEqual(turn_of(BOOK, (1, 5, 4)), (2, 5))
        for j in all_kinds(BOOK):
            for k in all_kinds(BOOK):
                for way in naive_ways(BOOK, j, k):
                    a, b = turn_of(BOOK, way)
                    for x in range(7):
                        self.assertEqual((a * x + b) % 7, along(BOOK, way, x))
                    self.assertTrue(0 <= a < 7 and 0 <= b < 7)

    def test_way_price(self):
        self.assertEqual(way_price(BOOK, ()), 0)
        self.assertEqual([way_price(BOOK, way) for way in FROM_0_TO_3], [11, 26, 100, 12, 27, 27])
        dear = book(3, ["a", "b", "c"], [(0, 1, 1, 0, 10 ** 30), (1, 2, 1, 0, 10 ** 30 - 1)], [])
        self.assertEqual(way_price(dear, (0, 1)), 2 * 10 ** 30 - 1)


if __name__ == "__main__":
    unittest.main()
