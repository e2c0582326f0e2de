"""The promise over the whole [3]: in an even book all readings come to the same; where a book is not, its fault shows it."""

import random
import unittest

from chiefway.books import book
from chiefway.chiefs import chief
from chiefway.counting import counts, told
from chiefway.errors import NoReading
from chiefway.looks import even, fault
from chiefway.machine import run
from chiefway.prices import cheapest
from chiefway.readings import worth
from chiefway.rows import longest, rows_of
from helper import (
    GREAT, all_kinds, along, any_book, any_even_book, any_given, any_heads, naive_readings, naive_value, naive_ways,
    readable_part, samples)


def is_chief(told_book, heads, readings, kind, reading, givens):
    """Whether the reading at the kind is a chief one as point 3 tells it, as far as these inputs show."""
    for other in all_kinds(told_book):
        found = naive_ways(told_book, kind, other)
        if readings[other] and not found:
            return False
        for given in givens:
            number = naive_value(told_book, reading, given)
            for one in readings[other]:
                for way in found:
                    if naive_value(told_book, one, given) != along(told_book, way, number):
                        return False
    return True


class Even(unittest.TestCase):
    def test_the_reading_that_costs_least_is_worth_the_same_and_so_are_its_rows(self):
        chance = random.Random(75)
        many = 0
        for told_book, heads, part, readings in samples(76, (3, 5, 15, GREAT), 100, any_even_book, 12, 400):
            given = any_given(chance, told_book, heads)
            for kind in all_kinds(told_book):
                if readings[kind]:
                    reading = cheapest(told_book, heads, part, kind)
                    numbers = {naive_value(told_book, one, given) for one in readings[kind]}
                    self.assertEqual(numbers, {worth(told_book, reading, given)})
                    rows = rows_of(told_book, heads, reading)
                    values = [given[x] for x, k in heads]
                    self.assertEqual({run(told_book[0], rows, values, longest(reading))[0]}, numbers)
                    many += 1
        self.assertGreater(many, 300)

    def test_all_readings_are_worth_what_the_chief_one_is(self):
        chance = random.Random(71)
        seen = {"programs": 0, "readings": 0, "none": 0, "several": 0}
        for told_book, heads, part, readings in samples(72, (3, 5, 9, 15, GREAT), 150, any_even_book, 12, 400):
            if not any(readings):
                seen["none"] += 1
                with self.assertRaises(NoReading):
                    chief(told_book, heads, part)
                continue
            kind, reading = chief(told_book, heads, part)
            givens = [any_given(chance, told_book, heads) for time in range(2)]
            self.assertTrue(is_chief(told_book, heads, readings, kind, reading, givens))
            for other in all_kinds(told_book):
                self.assertIs(len(readings[other]) > 0, len(naive_ways(told_book, kind, other)) > 0)
            seen["programs"] += 1
            seen["readings"] += sum(len(there) for there in readings)
            seen["several"] += max(len(there) for there in readings) > 3
        self.assertGreater(min(seen.values()), 40, seen)
        self.assertGreater(seen["readings"], 3000, seen)

    def test_readings_taken_here_and_there_of_very_many(self):
        chance = random.Random(73)
        many = 0
        for M in (7, 9, GREAT):
            for time in range(60):
                told_book = any_even_book(chance, M)
                heads = any_heads(chance, told_book, 3)
                part = readable_part(chance, told_book, heads, 30)
                many += self.check_some(chance, told_book, heads, part)
        self.assertGreater(many, 200)

    def check_some(self, chance, told_book, heads, part):
        numbers = counts(told_book, heads, part)
        if not any(numbers):
            return 0
        kind, reading = chief(told_book, heads, part)
        given = any_given(chance, told_book, heads)
        number = worth(told_book, reading, given)
        for other in all_kinds(told_book):
            found = naive_ways(told_book, kind, other)
            self.assertIs(numbers[other] > 0, len(found) > 0)
            for time in range(5 if found else 0):
                one = told(told_book, heads, part, other, chance.randrange(numbers[other]))
                self.assertEqual(worth(told_book, one, given), along(told_book, chance.choice(found), number))
        return sum(len(naive_ways(told_book, kind, other)) > 0 for other in all_kinds(told_book))


def shown(told_book, found):
    """The program that a fault speaks of, with an input for each reading that shows it to be no chief one."""
    if found[0] == "ways":
        return [("x", found[1])], ("name", "x"), [{"x": found[5]}]
    heads = list(zip(("x", "y"), found[2]))
    part = ("use", found[1], tuple(("name", x) for x, k in heads))
    givens = [dict(zip(("x", "y"), values)) for m, v, values in found[3] if values]
    return heads, part, givens


class Uneven(unittest.TestCase):
    def test_the_fault_shows_a_program_without_a_chief_reading(self):
        chance = random.Random(74)
        seen = {"ways": 0, "makes": 0}
        for M in (3, 5, 9, 101, GREAT):
            for time in range(80):
                told_book = any_book(chance, M)
                found = fault(told_book)
                self.assertIs(even(told_book), found is None)
                if found is not None:
                    self.check(told_book, found)
                    seen[found[0]] += 1
        self.assertGreater(min(seen.values()), 40, seen)

    def check(self, told_book, found):
        heads, part, givens = shown(told_book, found)
        readings = [naive_readings(told_book, heads, part, kind) for kind in all_kinds(told_book)]
        self.assertTrue(any(readings))
        for kind in all_kinds(told_book):
            for reading in readings[kind]:
                self.assertFalse(is_chief(told_book, heads, readings, kind, reading, givens))

    def test_by_hand(self):
        told_book = book(5, ["a", "b"], [(0, 1, 1, 0, 0), (0, 1, 1, 1, 0)], [])
        self.check(told_book, fault(told_book))
        told_book = book(5, ["a", "b"], [], [("f", (0,), 0, [], 0), ("f", (0,), 1, [], 0)])
        self.check(told_book, fault(told_book))


if __name__ == "__main__":
    unittest.main()
