"""Programs as texts [35], read and refused [36]."""

import random
import unittest

from chiefway.books import book
from chiefway.errors import ChiefError, NoText
from chiefway.programs import program
from chiefway.sayings import read_program, show_program
from helper import GREAT, WHEELS, any_aligned_book, any_book, any_heads, any_part

BOOK = book(101, ["cm", "sq", "f"], [(0, 1, 1, 0, 0)], [
    ("f", (0,), 0, [], 0),
    ("g", (0, 1), 0, [], 0),
    ("f", (0, 0), 0, [], 0),
    ("abcdefgh", (1,), 1, [], 0),
])
X = ("name", "x")
Y = ("name", "y")
Z = ("name", "z")
ONE = ("number", 1, 0)
HEADS = [("x", 0), ("y", 1)]
IN = "in x cm y sq\n"

BODIES = (
    (X, "x"),
    (("number", 5, 0), "5:cm"),
    (("number", 0, 2), "0:f"),
    (("number", 100, 1), "100:sq"),
    (("use", "f", (X,)), "f(x)"),
    (("use", "g", (X, ONE)), "g(x 1:cm)"),
    (("use", "f", (("use", "f", (X, Y)),)), "f(f(x y))"),
    (("use", "abcdefgh", (("use", "g", (("use", "f", (X,)), Y)),)), "abcdefgh(g(f(x) y))"),
    (("let", "z", X, Y), "let z = x in y"),
    (("let", "z", ("let", "z", X, Z), Z), "let z = let z = x in z in z"),
    (("let", "z", X, ("let", "u", Z, ("name", "u"))), "let z = x in let u = z in u"),
    (("use", "g", (("let", "z", X, Z), Y)), "g(let z = x in z y)"),
    (("let", "z", ("use", "f", (X,)), ("use", "g", (Z, Z))), "let z = f(x) in g(z z)"),
    (("pick", 0, 1, X, Y, ONE), "pick cm sq (x y 1:cm)"),
    (("pick", 2, 0, ("pick", 0, 0, X, X, X), ("use", "f", (X,)), ("let", "z", X, Z)),
     "pick f cm (pick cm cm (x x x) f(x) let z = x in z)"),
    (("again", 3, 0, "z", X, Z), "again 3 cm z (x z)"),
    (("again", 0, 1, "z", ("again", 9, 2, "z", X, Z), ("again", 1, 0, "u", Z, ("name", "u"))),
     "again 0 sq z (again 9 f z (x z) again 1 cm u (z u))"),
    (("let", "f", X, ("use", "f", (("name", "f"),))), "let f = x in f(f)"),
    (("let", "cm", X, ("use", "g", (("name", "cm"), ("number", 7, 0)))), "let cm = x in g(cm 7:cm)"),
    (("let", "lets", X, ("name", "lets")), "let lets = x in lets"),
    (("let", "inn", X, ("name", "inn")), "let inn = x in inn"),
)


class Shown(unittest.TestCase):
    def test_each_kind_of_part(self):
        for body, text in BODIES:
            told = program(BOOK, HEADS, body)
            self.assertEqual(show_program(BOOK, told), IN + text)
            self.assertEqual(read_program(BOOK, IN + text), told)

    def test_heads(self):
        self.assertEqual(show_program(BOOK, program(BOOK, [], ONE)), "in\n1:cm")
        self.assertEqual(read_program(BOOK, "in\n1:cm"), ((), ONE))
        six = [(x, n % 3) for n, x in enumerate(("u", "v", "w", "x", "y", "abcdefgh"))]
        text = "in u cm v sq w f x cm y sq abcdefgh f\nabcdefgh"
        told = program(BOOK, six, ("name", "abcdefgh"))
        self.assertEqual(show_program(BOOK, told), text)
        self.assertEqual(read_program(BOOK, text), told)

    def test_great_programs(self):
        told = book(GREAT, ["abcdefgh"], [], [("abcdefgh", (0, 0), 0, [], 0)])
        body = ("number", GREAT - 1, 0)
        for layer in range(23):
            body = ("use", "abcdefgh", (("number", GREAT - 1, 0), body))
        said = program(told, [], body)
        text = show_program(told, said)
        self.assertEqual(read_program(told, text), said)
        wide = ("number", GREAT - 1, 0)
        for layer in range(4):
            wide = ("use", "abcdefgh", (wide, wide))
        body = ("use", "abcdefgh", (("use", "abcdefgh", (wide[2][0], wide[2][1][2][0])), wide))
        said = program(told, [], body)
        self.assertGreater(len(show_program(told, said)), 2000)
        self.assertEqual(read_program(told, show_program(told, said)), said)

    def test_of_any_book(self):
        chance = random.Random(121)
        for M in WHEELS:
            for make_book in (any_book, any_aligned_book):
                for time in range(40):
                    told = make_book(chance, M)
                    heads = any_heads(chance, told, 3)
                    body = any_part(chance, told, [x for x, k in heads], chance.randrange(1, 40))
                    try:
                        said = program(told, heads, body)
                    except ChiefError:
                        continue
                    text = show_program(told, said)
                    self.assertEqual(read_program(told, text), said)
                    self.assertEqual(show_program(told, read_program(told, text)), text)


class Refused(unittest.TestCase):
    def refused(self, text):
        with self.assertRaises(ChiefError, msg=text) as caught:
            read_program(BOOK, text)
        self.assertIs(type(caught.exception), NoText)

    def test_no_program_at_all(self):
        for text in ("", " ", "\n", "in", "in\n", "in x cm", "in x cm\n", "\nx", "x", "in\n\n", "in x cm\nx\n", "in x cm\nx\nx",
                     "in x cm\n\nx", "\nin x cm\nx", "in x cm x", "(" * 4000, "f(" * 2000, "in\n" + "f(" * 1998,
                     "in\n" + "let x = " * 490, "in\n" + "again 1 cm x (" * 280, "in\n" + "pick cm cm (" * 330, "in\n" + "9" * 3900,
                     "in\n" + "a" * 3900, "in\n" + " " * 3900, "in x cm\nf(" + "x " * 1900 + "x)", "in x cm\n" + "f(x " * 990, "in\n" + "9" * 5000 + ":cm", "in\n" + ")" * 3000,
                     "in x cm\n" + "let z = x in " * 300 + "x", "in" + " x cm" * 700 + "\nx"):
            self.refused(text)

    def test_heads(self):
        for row in ("in x", "in cm", "in x cm y", "in x mm", "in x 0", "in x cm x sq", "in x cm  y sq", "in x cm ", " in x cm", "in  x cm",
                    "In x cm", "let x cm", "inx cm", "in let cm", "in X cm", "in x1 cm", "in abcdefghi cm", "x cm", "in x cm in",
                    "in x cm a cm b cm c cm d cm e cm g cm", "in x let", "in cm x"):
            self.refused(row + "\n1:cm")

    def test_a_blank_too_many_or_too_few(self):
        for body, text in BODIES:
            for place in range(len(text) + 1):
                self.refused(IN + text[:place] + " " + text[place:])
                if text[place:place + 1] == " ":
                    self.refused(IN + text[:place] + "\n" + text[place + 1:])
                    self.refused(IN + text[:place] + "\t" + text[place + 1:])
                if text[place:place + 1] in "() =:" and place < len(text):
                    self.refused(IN + text[:place] + text[place + 1:])

    def test_brackets(self):
        for body, text in BODIES:
            for place in range(len(text) + 1):
                self.refused(IN + text[:place] + "(" + text[place:])
                self.refused(IN + text[:place] + ")" + text[place:])
            self.refused(IN + "(" + text + ")")
        for text in ("f()", "f", "f(", "f(x", "f x", "f(x y x)", "f[x]", "f(x,y)", "f((x))", "f(x)(x)", "f(x )", "f( x)", "f (x)",
                     "pick cm sq x y 1:cm", "pick cm sq (x y)", "pick cm sq (x y x x)", "pick cm (x y x)", "pick cm sq(x y x)",
                     "pick cm sq sq (x y x)", "again 3 cm z (x)", "again 3 cm z (x z z)", "again 3 cm (x z)", "again cm z (x z)",
                     "again 3 z (x z)", "again 3 cm z x z", "pick cm sq ()", "again 3 cm z ()", "pick(x y x)", "let(x)"):
            self.refused(IN + text)

    def test_numbers(self):
        for number in ("01", "00", "-1", "+1", "101", "102", "1.0", "", "1" * 61, "9" * 3000, "a", "1_0", "0x1"):
            self.refused(IN + number + ":cm")
            self.refused(IN + "f(" + number + ":cm)")
        for number in ("10", "-1", "01", "", "00", "9" * 100, "x", "3:cm", "+3"):
            self.refused(IN + f"again {number} cm z (x z)")
        for text in ("5", "5:", "5 :cm", "5: cm", "5:mm", "5:0", "5:CM", "5:cm:cm", "5:x", ":cm", "5;cm", "5cm", "cm:5", "5:let"):
            self.refused(IN + text)

    def test_names_that_are_not_known(self):
        for text in ("z", "cm", "let z = z in x", "again 1 cm z (z x)", "f(z)", "g(let z = x in z z)", "h(x)", "g(x)", "abcdefgh(x x)",
                     "f(x x x)", "abcdefghi", "X", "x1", "x.", "let x = x in x", "let z = x in let z = z in z", "again 1 cm x (y x)",
                     "pick cm mm (x x x)", "pick x sq (x x x)", "pick 0 1 (x x x)", "again 1 mm z (x z)", "x(x)", "sq(x)"):
            self.refused(IN + text)

    def test_words_in_a_names_place(self):
        for word in ("let", "in", "pick", "again"):
            for text in ("{}", "f({})", "{}(x)", "let {} = x in x", "again 1 cm {} (x x)", "pick {} cm (x x x)", "5:{}", "pick cm {} (x x x)",
                         "again 1 {} z (x z)", "let z = {} in z", "let z = x in {}", "again {} cm z (x z)"):
                self.refused(IN + text.format(word))
            self.refused(f"in {word} cm\n1:cm")
            self.refused(f"in x {word}\n1:cm")

    def test_lets(self):
        for text in ("let z = x", "let z = x in", "let z = x in ", "let z = in x", "let z x in z", "let = x in x", "let z= x in z",
                     "let z =x in z", "let z = xin z", "let z = x inz", "let z = x  in z", "let z == x in z", "letz = x in z", "let z = x, z",
                     "let Z = x in x", "let z = x in z in z", "Let z = x in z", "let z y = x in z"):
            self.refused(IN + text)

    def test_text_behind_the_body(self):
        for body, text in BODIES:
            for more in (" x", "x(", ")", " ", "\n", "\nx", ":", " in x", "~", "\n" + text, ",", " 1:cm"):
                self.refused(IN + text + more)

    def test_what_is_refused_as_a_program(self):
        deep = "f(" * 23 + "x" + ")" * 23
        self.assertEqual(show_program(BOOK, read_program(BOOK, IN + deep)), IN + deep)
        self.refused(IN + "f(" + deep + ")")
        wide = "f(x x)"
        for layer in range(4):
            wide = f"f({wide} {wide})"
        self.refused(IN + wide)
        self.refused(IN + "let a = x in let b = x in let c = x in c")
        self.refused(IN + "again 1 cm a (x again 1 cm b (x again 1 cm c (x x)))")

    def test_any_change_is_refused_or_tells_another_program(self):
        chance = random.Random(122)
        seen = {"refused": 0, "read": 0}
        for time in range(6000):
            text = IN + chance.choice(BODIES)[1]
            for change in range(chance.randrange(1, 3)):
                place = chance.randrange(len(text) + 1)
                sign = chance.choice(" \n0123456789cmsqfgxyzletinpcka:()=~A" + text)
                text = chance.choice((
                    text[:place] + sign + text[place:], text[:place] + text[place + 1:], text[:place] + sign + text[place + 1:]))
            try:
                told = read_program(BOOK, text)
            except NoText:
                seen["refused"] += 1
            else:
                self.assertEqual(show_program(BOOK, told), text)
                self.assertEqual(program(BOOK, list(told[0]), told[1]), told)
                seen["read"] += 1
        self.assertGreater(min(seen.values()), 100, seen)


if __name__ == "__main__":
    unittest.main()
