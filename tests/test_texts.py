"""Books as texts [34], read and refused [36]."""

import random
import unittest

from chiefway.books import book
from chiefway.errors import ChiefError, NoText
from chiefway.texts import read_book, show_book
from helper import GREAT, WHEELS, any_aligned_book, any_book

BOOK = book(101, ["cm", "sq", "h"], [(0, 2, 100, 0, 7), (1, 2, 0, 1, 0)], [
    ("area", (0, 0), 1, [((1, 1), 1), ((0, 0), 5)], 3),
    ("none", (2,), 0, [], 10 ** 30),
    ("f", (1,), 2, [((2,), 100)], 0),
])
TEXT = """wheel 101
kind cm
kind sq
kind h
road cm h 100 0 7
road sq h 0 1 0
make area cm cm > sq 3 : 0,0*5 1,1*1
make none h > cm 1000000000000000000000000000000 :
make f sq > h 0 : 2*100"""


class Shown(unittest.TestCase):
    def test_by_hand(self):
        self.assertEqual(show_book(BOOK), TEXT)
        self.assertEqual(read_book(TEXT), BOOK)

    def test_the_least_book(self):
        self.assertEqual(show_book(book(3, ["a"], [], [])), "wheel 3\nkind a")
        self.assertEqual(read_book("wheel 3\nkind a"), (3, ("a",), (), ()))

    def test_great_numbers(self):
        told = book(GREAT, ["a", "b"], [(0, 1, -1, -2, 10 ** 30)], [("f", (0,), 0, [((2,), -1)], 10 ** 30)])
        nines = "9" * 59
        text = f"wheel {nines}9\nkind a\nkind b\nroad a b {nines}8 {nines}7 1{'0' * 30}\nmake f a > a 1{'0' * 30} : 2*{nines}8"
        self.assertEqual(show_book(told), text)
        self.assertEqual(read_book(text), told)

    def test_a_very_great_book(self):
        chance = random.Random(111)
        roads = [(0, 5, chance.randrange(GREAT), chance.randrange(GREAT), 10 ** 30)] * 12
        terms = [((x, y), chance.randrange(1, GREAT)) for x in range(3) for y in range(3)]
        makes = [(name, (0, 5), 5, terms, 10 ** 30) for name in ("abcdefgh", "ijklmnop", "qrstuvwx") for make in range(5)]
        told = book(GREAT, ["abcdefg" + last for last in "abcdef"], roads, makes)
        self.assertGreater(len(show_book(told)), 8000)
        self.assertEqual(read_book(show_book(told)), told)

    def test_of_any_book(self):
        chance = random.Random(112)
        for M in WHEELS:
            for make_book in (any_book, any_aligned_book):
                for time in range(40):
                    told = make_book(chance, M)
                    text = show_book(told)
                    self.assertEqual(read_book(text), told)
                    self.assertEqual(show_book(read_book(text)), text)


class Refused(unittest.TestCase):
    def refused(self, text):
        with self.assertRaises(ChiefError, msg=text) as caught:
            read_book(text)
        self.assertIs(type(caught.exception), NoText)

    def changed(self, old, new, times=None):
        """TEXT with the old words changed, which must be in it."""
        self.assertIn(old, TEXT)
        self.refused(TEXT.replace(old, new))

    def test_no_book_at_all(self):
        for text in ("", " ", "\n", "wheel", "kind a", "wheel 3", "wheel 3\n", "wheel\nkind a", "wheel 3 kind a", "even", "~",
                     "\n" * 4000, " " * 4000, "9" * 4000, "wheel " + "9" * 5000, "wheel 3\n" + "kind a\n" * 500, "make " * 700, ">" * 3000, "*" * 3999):
            self.refused(text)

    def test_each_row_missing_twice_or_elsewhere(self):
        rows = TEXT.split("\n")
        for number, row in enumerate(rows):
            without = rows[:number] + rows[number + 1:]
            # The book without a road or make that no other row speaks of is a book too.
            if number < 4:
                self.refused("\n".join(without))
            if number < 4:
                self.refused("\n".join(rows[:number] + [row] + rows[number:]))
            for place in range(len(rows)):
                moved = without[:place] + [row] + without[place:]
                kinds = [one.split(" ")[0] for one in moved]
                if kinds != [one.split(" ")[0] for one in rows]:
                    self.refused("\n".join(moved))
            for more in ("", " ", "kind", "wheel 101", "remark", "# a", "roads a b 0 0 0"):
                self.refused("\n".join(rows[:number] + [more] + rows[number:]))

    def test_rows_that_may_be_left_out(self):
        rows = TEXT.split("\n")
        for number in range(4, 9):
            text = "\n".join(rows[:number] + rows[number + 1:])
            self.assertEqual(show_book(read_book(text)), text)

    def test_blanks_and_line_ends(self):
        for place, sign in enumerate(TEXT):
            if sign == " ":
                self.refused(TEXT[:place] + " " + TEXT[place:])
                self.refused(TEXT[:place] + TEXT[place + 1:])
                self.refused(TEXT[:place] + "\n" + TEXT[place + 1:])
            if sign == "\n":
                self.refused(TEXT[:place] + " " + TEXT[place:])
                self.refused(TEXT[:place] + "\n " + TEXT[place + 1:])
                self.refused(TEXT[:place] + "\n" + TEXT[place:])
                self.refused(TEXT[:place] + " " + TEXT[place + 1:])
                self.refused(TEXT[:place] + TEXT[place + 1:])
        for text in (TEXT + "\n", TEXT + " ", "\n" + TEXT, " " + TEXT, TEXT + "\n\n"):
            self.refused(text)

    def test_a_blank_behind_the_colon(self):
        text = "wheel 5\nkind a\nmake f a > a 0 :"
        self.assertEqual(read_book(text), (5, ("a",), (), (("f", (0,), 0, (), 0),)))
        self.refused(text + " ")

    def test_numbers(self):
        for row in ("wheel {}", "road cm h {} 0 7", "road cm h 100 {} 7", "road cm h 100 0 {}",
                    "make area cm cm > sq {} : 0,0*5", "make area cm cm > sq 3 : 0,0*{}", "make area cm cm > sq 3 : 0,{}*5"):
            rows = ["wheel 101", "kind cm", "kind sq", "kind h"]
            for number in ("", "00", "01", "001", "+1", "-1", "-0", "1.", "1e0", "0x1", "1_0", "a", "one", "1,", ",1", "1*",
                           "\t1", "1" + "0" * 61, "9" * 3000, "0" * 60):
                changed = list(rows)
                if row.startswith("wheel"):
                    changed[0] = row.format(number)
                else:
                    changed.append(row.format(number))
                self.refused("\n".join(changed))

    def test_numbers_not_on_the_wheel(self):
        for old, new in (("road cm h 100 0 7", "road cm h 101 0 7"), ("road cm h 100 0 7", "road cm h 100 101 7"),
                         ("road cm h 100 0 7", "road cm h 201 0 7"), ("2*100", "2*101"), ("2*100", "2*102"), ("0,0*5", "0,0*106"),
                         ("0,0*5", "0,0*0")):
            self.changed(old, new)
        for M in ("100", "1", "0", "2", str(10 ** 60), str(10 ** 60 + 1)):
            self.changed("wheel 101", "wheel " + M)

    def test_terms(self):
        for terms in ("1,1*1 0,0*5", "0,0*5 0,0*5", "0,0*2 0,0*3 1,1*1", "0,0*5 1,1*0", "0,0*5 1,3*1", "0,0*5 3,1*1", "0*5 1,1*1",
                      "0,0,0*5 1,1*1", "0,0*5,1,1*1", "0,0*5*1", "0,0 5 1,1*1", "0,0 *5 1,1*1", "0, 0*5 1,1*1", "*5 1,1*1",
                      ",*5", "0,*5", "0,0*", "0,0", "5", "0;0*5", "00,0*5", "0,0*05", "0,9*5", "0,0*5  1,1*1"):
            self.changed("0,0*5 1,1*1", terms)
        for terms in ("2,2*100", "0*100", "3*100", "0,0*1", "2*100 2*1", "2*100 1*1", "-1*100"):
            if terms != "0*100":
                self.changed("2*100", terms)

    def test_names(self):
        for old, new in (("kind sq", "kind Sq"), ("kind sq", "kind let"), ("kind sq", "kind in"), ("kind sq", "kind abcdefghi"),
                         ("kind sq", "kind"), ("kind sq", "kind sq sq"), ("kind sq", "kind cm"), ("make f", "make again"),
                         ("make f", "make F"), ("make f", "make"), ("make f", "make >"), ("make f", "make f1"), ("road cm", "road mm"),
                         ("road cm h", "road cm"), ("road cm h", "road cm cm h"), ("road cm h", "road cm 2"), ("> sq", "> qs"),
                         ("> sq", "> 1"), ("> sq", ">"), ("> sq", "> sq sq"), ("> sq", "sq"), ("> sq", "> > sq"), ("sq 3 :", "sq 3"),
                         ("sq 3 :", "sq :"), ("sq 3 :", "sq 3 3 :"), ("sq 3 :", "sq 3 : :"), ("cm cm >", ">"), ("cm cm >", "cm cm cm >"),
                         ("cm cm >", "cm mm >"), ("cm cm >", "cm  >"), ("wheel", "Wheel"), ("kind cm", "kinds cm"), ("road", "way"),
                         ("make f", "deed f")):
            self.changed(old, new)

    def test_what_is_refused_as_a_book(self):
        begun = "wheel 5\nkind a\nkind b"
        self.assertEqual(len(read_book(begun + "\nroad a b 0 0 0" * 12)[2]), 12)
        self.refused(begun + "\nroad a b 0 0 0" * 13)
        self.refused(begun + "\nroad b a 0 0 0")
        self.refused(begun + "\nroad a a 0 0 0")
        self.refused(begun + f"\nroad a b 0 0 {10 ** 30 + 1}")
        self.assertEqual(read_book(begun + f"\nroad a b 0 0 {10 ** 30}")[2][0][4], 10 ** 30)
        make = "\nmake f a > b 0 :"
        self.assertEqual(len(read_book(begun + make * 6)[3]), 6)
        self.refused(begun + make * 7)
        makes = "".join(make.replace("f", name) * 4 for name in "cdeg")
        self.assertEqual(len(read_book(begun + makes)[3]), 16)
        self.refused(begun + makes + make)
        self.refused(begun + f"\nmake f a > b {10 ** 30 + 1} :")
        self.refused("wheel 5" + "".join("\nkind " + name for name in "abcdefg"))
        self.assertEqual(len(read_book("wheel 5" + "".join("\nkind " + name for name in "abcdef"))[1]), 6)

    def test_any_change_is_refused_or_tells_another_book(self):
        chance = random.Random(113)
        seen = {"refused": 0, "read": 0}
        for time in range(4000):
            text = spoiled(chance, TEXT)
            try:
                told = read_book(text)
            except NoText:
                seen["refused"] += 1
            else:
                self.assertEqual(show_book(told), text)
                seen["read"] += 1
        self.assertGreater(min(seen.values()), 100, seen)


def spoiled(chance, text):
    """The text with one to two signs changed, put in, left out or told twice."""
    for time in range(chance.randrange(1, 3)):
        place = chance.randrange(len(text) + 1)
        sign = chance.choice(" \n0123456789abcdefghijklmnopqrstuvwxyz:,*>()=~AZ" + text)
        text = chance.choice((
            text[:place] + sign + text[place:], text[:place] + text[place + 1:], text[:place] + sign + text[place + 1:],
            text[:place] + text[place:place + 5] + text[place:]))
    return text


if __name__ == "__main__":
    unittest.main()
