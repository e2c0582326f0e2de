"""The desk [37], and the promise over the whole [3] as it shows there."""

import random
import unittest

from chiefway.books import book
from chiefway.chiefs import chief
from chiefway.counting import counts
from chiefway.desk import answer, judge
from chiefway.errors import ChiefError, NoHead, NoReading, NoText, Uneven
from chiefway.looks import fault
from chiefway.programs import program
from chiefway.readings import worth
from chiefway.sayings import show_program
from chiefway.texts import show_book
from helper import (
    GREAT, WHEELS, all_kinds, along, any_aligned_book, any_book, any_even_book, any_given, any_heads, naive_readings, naive_value,
    naive_ways, readable_part)

EVEN = """wheel 101
kind cm
kind mm
kind sq
road cm mm 10 0 1
make area cm cm > sq 3 : 1,1*1
make twice mm > mm 1 : 1*2
make twice cm > cm 5 : 1*2"""
WAYS = "wheel 5\nkind a\nkind b\nkind c\nroad b c 1 0 0\nroad b c 1 1 0"
MAKES = "wheel 5\nkind a\nkind b\nmake f b > a 0 : 1*1\nmake f b > a 0 : 1*2"


class Judged(unittest.TestCase):
    def test_even(self):
        self.assertEqual(judge(EVEN), "even")
        self.assertEqual(judge("wheel 3\nkind a"), "even")

    def test_ways(self):
        self.assertEqual(judge(WAYS), "ways b c 0")
        self.assertEqual(judge(WAYS.replace("1 1 0", "2 0 0")), "ways b c 1")

    def test_makes(self):
        self.assertEqual(judge(MAKES), "makes f b")
        two = MAKES.replace("f b > a 0 : 1*", "plus b a > a 0 : 1,0*")
        self.assertEqual(judge(two), "makes plus b a")

    def test_ways_ahead_of_makes(self):
        self.assertEqual(judge(WAYS + "\nmake f b > a 0 : 1*1\nmake f b > a 0 : 1*2"), "ways b c 0")

    def test_no_text(self):
        for text in ("", "even", EVEN + "\n", EVEN + " ", WAYS.replace("kind a\n", "kind a\nkind a\n"), "wheel 4\nkind a"):
            with self.assertRaises(ChiefError) as caught:
                judge(text)
            self.assertIs(type(caught.exception), NoText)

    def test_of_any_book(self):
        chance = random.Random(131)
        seen = {}
        for M in WHEELS:
            for make_book in (any_book, any_aligned_book):
                for time in range(30):
                    told = make_book(chance, M)
                    found = fault(told)
                    text = judge(show_book(told))
                    words = text.split(" ")
                    seen[words[0]] = seen.get(words[0], 0) + 1
                    if found is None:
                        self.assertEqual(text, "even")
                    elif found[0] == "ways":
                        self.assertEqual(words, ["ways", told[1][found[1]], told[1][found[2]], str(found[5])])
                    else:
                        self.assertEqual(words, ["makes", found[1]] + [told[1][kind] for kind in found[2]])
        self.assertGreater(min(seen.values()), 20)
        self.assertEqual(len(seen), 3)


class Answered(unittest.TestCase):
    def test_by_hand(self):
        self.assertEqual(answer(EVEN, "in x cm\nx", "cm", [7]), 7)
        self.assertEqual(answer(EVEN, "in x cm\nx", "mm", [7]), 70)
        self.assertEqual(answer(EVEN, "in x cm y cm\narea(x y)", "sq", [7, 8]), 56)
        self.assertEqual(answer(EVEN, "in x cm\ntwice(x)", "cm", [7]), 14)
        self.assertEqual(answer(EVEN, "in x cm\ntwice(x)", "mm", [7]), 140 - 101)
        self.assertEqual(answer(EVEN, "in\n5:cm", "mm", []), 50)
        self.assertEqual(answer(EVEN, "in x cm\nlet y = twice(x) in area(y y)", "sq", [3]), 36)
        self.assertEqual(answer(EVEN, "in x cm y mm\npick mm cm (y x 5:cm)", "mm", [2, 0]), 50)
        self.assertEqual(answer(EVEN, "in x cm y mm\npick mm cm (y x 5:cm)", "mm", [2, 1]), 20)
        self.assertEqual(answer(EVEN, "in x cm\nagain 4 mm y (x twice(y))", "mm", [1]), 160 - 101)

    def test_the_values_stay(self):
        values = [3, 4]
        answer(EVEN, "in x cm y cm\nlet z = x in again 2 cm u (z twice(u))", "cm", values)
        self.assertEqual(values, [3, 4])

    def refused(self, error, text, saying, name, values):
        kept = list(values)
        with self.assertRaises(ChiefError) as caught:
            answer(text, saying, name, values)
        self.assertIs(type(caught.exception), error)
        self.assertEqual(values, kept)

    def test_each_refusal_by_itself(self):
        self.refused(NoText, EVEN + "\n", "in x cm\nx", "cm", [7])
        self.refused(NoText, EVEN, "in x cm\ny", "cm", [7])
        self.refused(NoText, EVEN, "in x cm\nx", "km", [7])
        self.refused(NoText, EVEN, "in x cm\nx", "", [7])
        self.refused(NoText, EVEN, "in x cm\nx", "cm mm", [7])
        self.refused(NoText, EVEN, "in x cm\nx", "CM", [7])
        self.refused(NoText, EVEN, "in x cm\nx", "x", [7])
        self.refused(NoHead, EVEN, "in x cm\nx", "cm", [])
        self.refused(NoHead, EVEN, "in x cm\nx", "cm", [7, 7])
        self.refused(NoHead, EVEN, "in\n5:cm", "cm", [7])
        self.refused(Uneven, WAYS, "in x a\nx", "a", [1])
        self.refused(Uneven, MAKES, "in x a\nx", "a", [1])
        self.refused(NoReading, EVEN, "in x mm\nx", "cm", [7])
        self.refused(NoReading, EVEN, "in x cm\nx", "sq", [7])
        self.refused(NoReading, EVEN, "in x mm\narea(x x)", "sq", [7])
        self.refused(NoReading, EVEN, "in x cm\narea(x x)", "cm", [7])

    def test_the_order_of_the_refusals(self):
        self.refused(NoText, WAYS + " ", "in x a\nx", "b", [])
        self.refused(NoText, WAYS, "in x a\ny", "b", [])
        self.refused(NoText, WAYS, "in x c\nx", "d", [])
        self.refused(NoText, EVEN, "in x cm\nx", "km", [])
        self.refused(NoHead, WAYS, "in x c\nx", "b", [])
        self.refused(NoHead, MAKES, "in x a\nf(x)", "b", [1, 2])
        self.refused(NoHead, EVEN, "in x mm\nx", "cm", [])
        self.refused(Uneven, WAYS, "in x c\nx", "b", [1])
        self.refused(Uneven, MAKES, "in x a\nf(x)", "b", [1])


class Whole(unittest.TestCase):
    def test_the_answer_is_what_the_chief_reading_is_worth(self):
        chance = random.Random(132)
        seen = {"answered": 0, "refused": 0}
        for M in (3, 5, 9, 15, 101, GREAT):
            for time in range(60):
                told = any_even_book(chance, M)
                heads = any_heads(chance, told, 3)
                body = readable_part(chance, told, heads, chance.randrange(1, 30))
                try:
                    said = program(told, heads, body)
                except ChiefError:
                    continue
                self.check(chance, told, said, seen)
        self.assertGreater(min(seen.values()), 150, seen)

    def check(self, chance, told, said, seen):
        heads, body = said
        given = any_given(chance, told, heads)
        values = [given[x] for x, k in heads]
        kind, reading = chief(told, heads, body)
        number = worth(told, reading, given)
        self.assertEqual(number, naive_value(told, reading, given))
        for other in all_kinds(told):
            asked = (show_book(told), show_program(told, said), told[1][other], values)
            found = naive_ways(told, kind, other)
            for way in found:
                self.assertEqual(answer(*asked), along(told, way, number))
            if not found:
                with self.assertRaises(NoReading):
                    answer(*asked)
            seen["answered" if found else "refused"] += 1

    def test_a_program_without_any_reading_is_refused_everywhere(self):
        for name in ("cm", "mm", "sq"):
            with self.assertRaises(NoReading):
                answer(EVEN, "in x sq\ntwice(area(x x))", name, [1])

    def test_programs_with_very_many_readings(self):
        roads = "".join(f"\nroad {one} {two} 2 0 {n}" for one, two in ("ab", "bc", "cd", "de") for n in (3, 0, 1))
        text = "wheel 101\nkind a\nkind b\nkind c\nkind d\nkind e" + roads + "\nmake sum e e > e 2 : 0,1*1 1,0*1"
        body = "x"
        for layer in range(4):
            body = f"sum({body} {body})"
        self.assertEqual(judge(text), "even")
        # x is turned by 2 four times; 16 of them are added up.
        self.assertEqual(answer(text, "in x a\n" + body, "e", [5]), 5 * 16 * 16 % 101)
        told = book(101, ["a", "b", "c", "d", "e"], [("abcde".index(one), "abcde".index(two), 2, 0, n)
                    for one, two in ("ab", "bc", "cd", "de") for n in (3, 0, 1)], [("sum", (4, 4), 4, [((0, 1), 1), ((1, 0), 1)], 2)])
        self.assertEqual(show_book(told), text)
        part = ("name", "x")
        for layer in range(4):
            part = ("use", "sum", (part, part))
        self.assertEqual(counts(told, [("x", 0)], part)[4], 81 ** 16)

    def test_books_that_are_not_even(self):
        chance = random.Random(133)
        seen = {"ways": 0, "makes": 0}
        for M in (3, 9, GREAT):
            for time in range(60):
                told = any_book(chance, M)
                words = judge(show_book(told)).split(" ")
                if words[0] != "even":
                    seen[words[0]] += 1
                    self.check_uneven(told, words)
        self.assertGreater(min(seen.values()), 20)

    def check_uneven(self, told, words):
        """What is judged names a program; its readings differ, or none leads to all others."""
        if words[0] == "ways":
            kinds = [words[1]]
            part = ("name", "x")
        else:
            kinds = words[2:]
            part = ("use", words[1], (("name", "x"), ("name", "y"))[:len(kinds)])
        heads = [(x, told[1].index(kind)) for x, kind in zip("xy", kinds)]
        saying = show_program(told, program(told, heads, part))
        readings = [naive_readings(told, heads, part, kind) for kind in all_kinds(told)]
        self.assertTrue(any(readings))
        for name in told[1]:
            with self.assertRaises(Uneven):
                answer(show_book(told), saying, name, [1] * len(heads))
        givens = [{"x": x, "y": y} for x in range(3) for y in range(3)]
        for kind in all_kinds(told):
            for reading in readings[kind]:
                self.assertFalse(all(self.agrees(told, kind, reading, readings[other], other, givens) for other in all_kinds(told)))

    def agrees(self, told, kind, reading, others, other, givens):
        found = naive_ways(told, kind, other)
        if others and not found:
            return False
        for given in givens:
            numbers = [naive_value(told, one, given) for one in others]
            turned = [along(told, way, naive_value(told, reading, given)) for way in found]
            if others and len(set(numbers + turned)) > 1:
                return False
        return True


if __name__ == "__main__":
    unittest.main()
