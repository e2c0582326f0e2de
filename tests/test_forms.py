"""Forms: their worth [6], how they are made and reckoned with [7], and their parting [8]."""

import itertools
import random
import unittest

from chiefway.errors import NoForm
from chiefway.forms import form, parting, plus, put, times, turned_form, worth_at

GREAT = 10 ** 60 - 1
WHEELS = (3, 5, 9, 15, 101, GREAT)
SIXTY = int("7" * 60)
VALUES = (0, 1, 2, 7, -1, -5, SIXTY, -SIXTY)
TURNS = ((1, 0), (0, 0), (0, 1), (0, -4), (1, 5), (2, 0), (-1, 0), (-3, 8), (SIXTY, -SIXTY))


def is_form(M, n, thing):
    """Whether point 6 calls the thing a form in n unknowns."""
    if type(thing) is not tuple:
        return False
    for term in thing:
        if type(term) is not tuple or len(term) != 2:
            return False
        exponents, c = term
        if type(exponents) is not tuple or len(exponents) != n:
            return False
        if any(type(e) is not int or e < 0 for e in exponents):
            return False
        if type(c) is not int or not 1 <= c < M:
            return False
    return all(a[0] < b[0] for a, b in zip(thing, thing[1:]))


def naive_worth(M, terms, values):
    """The worth by Python's own powers, on whole numbers, brought onto the wheel at the end."""
    total = 0
    for exponents, c in terms:
        for e, value in zip(exponents, values):
            c = c * value ** e
        total += c
    return total % M


def collected(M, pairs):
    """A form of pairs with any exponents, put together one exponent after the other."""
    told = []
    for exponents in sorted({exponents for exponents, c in pairs}):
        c = sum(d for others, d in pairs if others == exponents) % M
        if c:
            told.append((exponents, c))
    return tuple(told)


def naive_times(M, one, other):
    pairs = []
    for exponents, c in one:
        for others, d in other:
            pairs.append((tuple(a + b for a, b in zip(exponents, others)), c * d))
    return collected(M, pairs)


def naive_put(M, n, outer, inners):
    """Each outer term multiplied out by itself."""
    pairs = []
    for exponents, c in outer:
        product = (((0,) * n, c),)
        for e, inner in zip(exponents, inners):
            for factor in range(e):
                product = naive_times(M, product, inner)
        pairs.extend(product)
    return collected(M, pairs)


def some_form(chance, M, n, most, terms):
    pairs = []
    for term in range(chance.randrange(terms + 1)):
        exponents = tuple(chance.randrange(most + 1) for unknown in range(n))
        pairs.append((exponents, chance.randrange(-M, 2 * M)))
    return collected(M, pairs)


class WorthAt(unittest.TestCase):
    def test_in_one_unknown(self):
        one = (((0,), 5), ((1,), 2), ((3,), 1))
        self.assertEqual(worth_at(101, one, [2]), 17)
        self.assertEqual(worth_at(101, one, (2,)), 17)
        self.assertEqual(worth_at(7, one, [2]), 3)

    def test_in_two_unknowns(self):
        one = (((0, 1), 3), ((2, 0), 4), ((2, 3), 1))
        self.assertEqual(worth_at(101, one, [2, 1]), 3 + 16 + 4)
        self.assertEqual(worth_at(101, one, (1, 2)), 6 + 4 + 8)
        self.assertEqual(worth_at(5, one, (1, 2)), 3)

    def test_values_not_yet_on_the_wheel(self):
        one = (((1,), 1),)
        self.assertEqual(worth_at(5, one, [-1]), 4)
        self.assertEqual(worth_at(5, one, [5]), 0)
        self.assertEqual(worth_at(5, (((2,), 1),), [-2]), 4)
        two = (((1, 1), 1),)
        self.assertEqual(worth_at(7, two, [-1, 9]), 5)

    def test_nought_to_the_power_nought_is_one(self):
        self.assertEqual(worth_at(5, (((0,), 3),), [0]), 3)
        self.assertEqual(worth_at(5, (((0, 0), 3),), [0, 0]), 3)
        self.assertEqual(worth_at(5, (((0, 2), 3),), [0, 1]), 3)
        self.assertEqual(worth_at(5, (((2, 0), 3),), [1, 0]), 3)
        self.assertEqual(worth_at(5, (((0,), 3),), [5]), 3)
        self.assertEqual(worth_at(5, (((1,), 3),), [0]), 0)

    def test_the_empty_form_is_worth_nought(self):
        for M in WHEELS:
            for value in VALUES:
                self.assertEqual(worth_at(M, (), [value]), 0)
                self.assertEqual(worth_at(M, (), (value, value)), 0)

    def test_great_exponents(self):
        for M in WHEELS:
            for value in VALUES:
                one = (((0,), 1), ((8,), 2), ((63,), 1), ((64,), 2))
                two = (((0, 64), 1), ((64, 0), 2), ((64, 64), 2))
                self.assertEqual(worth_at(M, one, [value]), naive_worth(M, one, [value]))
                values = (value, 3 - value)
                self.assertEqual(worth_at(M, two, values), naive_worth(M, two, values))

    def test_the_order_of_the_values_counts(self):
        one = (((0, 1), 2), ((3, 0), 1))
        self.assertEqual(worth_at(101, one, [2, 5]), 18)
        self.assertEqual(worth_at(101, one, [5, 2]), 125 + 4 - 101)

    def test_the_values_stay(self):
        values = [-1, SIXTY]
        worth_at(5, (((1, 2), 3),), values)
        self.assertEqual(values, [-1, SIXTY])


class Form(unittest.TestCase):
    def test_like_exponents_are_added(self):
        self.assertEqual(form(7, 1, [((1,), 2), ((1,), 3)]), (((1,), 5),))
        self.assertEqual(form(7, 1, [((1,), 5), ((0,), 1), ((1,), 5)]), (((0,), 1), ((1,), 3)))
        self.assertEqual(form(7, 2, [((1, 0), 2), ((0, 1), 2), ((1, 0), 1)]), (((0, 1), 2), ((1, 0), 3)))

    def test_what_comes_to_nought_is_no_term(self):
        self.assertEqual(form(7, 1, []), ())
        self.assertEqual(form(7, 2, []), ())
        self.assertEqual(form(7, 1, [((1,), 0)]), ())
        self.assertEqual(form(7, 1, [((1,), 7)]), ())
        self.assertEqual(form(7, 1, [((1,), -14), ((2,), 1)]), (((2,), 1),))
        self.assertEqual(form(7, 1, [((1,), 3), ((2,), 1), ((1,), 4)]), (((2,), 1),))
        self.assertEqual(form(7, 1, [((1,), 3), ((1,), 4), ((1,), 2)]), (((1,), 2),))
        self.assertEqual(form(7, 2, [((1, 2), 3), ((1, 2), -3)]), ())

    def test_terms_are_sorted(self):
        pairs = [((8, 0), 1), ((0, 8), 2), ((2, 1), 3), ((1, 2), 4), ((0, 0), 5), ((1, 0), 6)]
        told = (((0, 0), 5), ((0, 8), 2), ((1, 0), 6), ((1, 2), 4), ((2, 1), 3), ((8, 0), 1))
        for order in itertools.permutations(pairs):
            self.assertEqual(form(11, 2, list(order)), told)
        self.assertEqual(form(11, 1, [((3,), 1), ((8,), 2), ((0,), 3)]), (((0,), 3), ((3,), 1), ((8,), 2)))

    def test_c_comes_onto_the_wheel(self):
        self.assertEqual(form(7, 1, [((0,), -1)]), (((0,), 6),))
        self.assertEqual(form(7, 1, [((0,), 8)]), (((0,), 1),))
        for M in WHEELS:
            for c in (SIXTY, -SIXTY, GREAT - 1, 1 - GREAT):
                told = form(M, 1, [((4,), c), ((0,), 1)])
                self.assertTrue(is_form(M, 1, told))
                self.assertEqual(told, collected(M, [((4,), c), ((0,), 1)]))

    def test_any_pairs(self):
        chance = random.Random(7)
        for M in WHEELS:
            for n in (1, 2):
                for time in range(50):
                    pairs = []
                    for term in range(chance.randrange(30)):
                        exponents = tuple(chance.randrange(4) for unknown in range(n))
                        pairs.append((exponents, chance.choice((0, 1, -1, 2, M, SIXTY, -SIXTY))))
                    told = form(M, n, pairs)
                    self.assertTrue(is_form(M, n, told))
                    self.assertEqual(told, collected(M, pairs))

    def test_no_power_is_told_as_another(self):
        self.assertEqual(form(3, 1, [((1,), 1), ((3,), 1)]), (((1,), 1), ((3,), 1)))
        self.assertEqual(form(3, 1, [((8,), 1), ((2,), -1)]), (((2,), 2), ((8,), 1)))

    def test_other_numbers_of_unknowns_are_refused(self):
        for n in (0, 3, 4, -1, -2, SIXTY, -SIXTY):
            with self.subTest(n=n):
                with self.assertRaises(NoForm):
                    form(5, n, [])
                with self.assertRaises(NoForm):
                    form(5, n, [((1,), 1)])
                with self.assertRaises(NoForm):
                    form(5, n, [((1,) * (n if 0 <= n < 5 else 1), 1)])

    def test_wrong_exponents_are_refused_wherever_they_stand(self):
        wrong = {
            1: ((), (1, 1), (0, 0), (-1,), (9,), (10,), (64,), (-SIXTY,), (SIXTY,)),
            2: ((), (1,), (0,), (0, 0, 0), (1, -1), (-1, 1), (9, 0), (0, 9), (8, 9), (SIXTY, 0), (0, -SIXTY)),
        }
        for n in (1, 2):
            good = [((8,) * n, 1), ((0,) * n, 2)]
            self.assertEqual(form(5, n, good), (((0,) * n, 2), ((8,) * n, 1)))
            for exponents in wrong[n]:
                for c in (1, 0, 5, -5, SIXTY):
                    for place in range(3):
                        pairs = list(good)
                        pairs.insert(place, (exponents, c))
                        with self.subTest(n=n, pairs=pairs), self.assertRaises(NoForm):
                            form(5, n, pairs)

    def test_wrong_exponents_that_cancel_are_refused(self):
        with self.assertRaises(NoForm):
            form(5, 1, [((9,), 1), ((9,), -1)])

    def test_the_list_stays(self):
        pairs = [((3,), -1), ((1,), 9), ((3,), 0)]
        form(5, 1, pairs)
        self.assertEqual(pairs, [((3,), -1), ((1,), 9), ((3,), 0)])


class Reckoning(unittest.TestCase):
    def test_plus_by_hand(self):
        one = (((0,), 1), ((2,), 4))
        other = (((1,), 3), ((2,), 1))
        self.assertEqual(plus(5, one, other), (((0,), 1), ((1,), 3)))
        self.assertEqual(plus(7, one, other), (((0,), 1), ((1,), 3), ((2,), 5)))
        self.assertEqual(plus(5, one, ()), one)
        self.assertEqual(plus(5, (), one), one)
        self.assertEqual(plus(5, (), ()), ())
        self.assertEqual(plus(5, (((1, 0), 4),), (((0, 1), 4),)), (((0, 1), 4), ((1, 0), 4)))
        self.assertEqual(plus(5, (((1, 0), 4),), (((1, 0), 4),)), (((1, 0), 3),))

    def test_times_by_hand(self):
        self.assertEqual(times(7, (((0,), 1), ((1,), 1)), (((0,), 6), ((1,), 1))), (((0,), 6), ((2,), 1)))
        self.assertEqual(
            times(7, (((0, 1), 1), ((1, 0), 1)), (((0, 1), 1), ((1, 0), 1))),
            (((0, 2), 1), ((1, 1), 2), ((2, 0), 1)),
        )
        self.assertEqual(times(9, (((1,), 3),), (((1,), 3),)), ())
        self.assertEqual(times(9, (((1,), 3), ((2,), 1)), (((1,), 3),)), (((3,), 3),))
        self.assertEqual(times(7, (((1, 2), 3),), ()), ())
        self.assertEqual(times(7, (), (((1, 2), 3),)), ())

    def test_no_power_is_told_as_another(self):
        x = (((1,), 1),)
        cube = times(3, times(3, x, x), x)
        self.assertEqual(cube, (((3,), 1),))
        self.assertEqual(plus(3, cube, x), (((1,), 1), ((3,), 1)))
        self.assertEqual(put(3, 1, (((3,), 1),), [x]), (((3,), 1),))
        self.assertEqual(put(3, 1, (((1,), 2), ((3,), 1)), [x]), (((1,), 2), ((3,), 1)))
        self.assertEqual(turned_form(3, 1, (1, 0), cube), cube)

    def test_exponents_above_eight_come_of_products(self):
        eight = form(5, 1, [((8,), 1)])
        self.assertEqual(times(5, eight, eight), (((16,), 1),))
        self.assertEqual(put(5, 1, eight, [eight]), (((64,), 1),))
        both = form(5, 2, [((8, 7), 1)])
        self.assertEqual(times(5, both, both), (((16, 14), 1),))
        self.assertEqual(put(5, 2, both, (both, both)), (((120, 105), 1),))
        far = (((64,), 1),)
        self.assertEqual(times(5, far, far), (((128,), 1),))
        self.assertEqual(plus(5, far, far), (((64,), 2),))

    def test_turned_form_by_hand(self):
        one = (((0,), 1), ((2,), 4))
        self.assertEqual(turned_form(7, 1, (2, 3), one), (((0,), 5), ((2,), 1)))
        self.assertEqual(turned_form(7, 1, (0, 3), one), (((0,), 3),))
        self.assertEqual(turned_form(7, 1, (0, 0), one), ())
        self.assertEqual(turned_form(7, 1, (7, -7), one), ())
        self.assertEqual(turned_form(7, 1, (2, 0), one), (((0,), 2), ((2,), 1)))
        self.assertEqual(turned_form(7, 1, (1, -1), one), (((2,), 4),))
        self.assertEqual(turned_form(7, 1, (-1, 10), one), (((0,), 2), ((2,), 3)))
        self.assertEqual(turned_form(7, 1, (1, 0), one), one)
        self.assertEqual(turned_form(7, 1, (2, 3), ()), (((0,), 3),))
        self.assertEqual(turned_form(7, 2, (2, -4), ()), (((0, 0), 3),))
        self.assertEqual(turned_form(7, 2, (2, 7), ()), ())
        self.assertEqual(turned_form(7, 2, (8, 8), (((0, 1), 3),)), (((0, 0), 1), ((0, 1), 3)))
        self.assertEqual(turned_form(9, 1, (3, 1), (((1,), 3),)), (((0,), 1),))

    def test_sums_and_products_of_any_forms(self):
        chance = random.Random(11)
        for M in WHEELS:
            for n in (1, 2):
                for time in range(40):
                    one = some_form(chance, M, n, 4, 8)
                    other = some_form(chance, M, n, 4, 8)
                    self.check_pair(M, n, one, other)

    def check_pair(self, M, n, one, other):
        both = plus(M, one, other)
        product = times(M, one, other)
        self.assertTrue(is_form(M, n, both))
        self.assertTrue(is_form(M, n, product))
        self.assertEqual(both, collected(M, one + other))
        self.assertEqual(product, naive_times(M, one, other))
        for values in itertools.product(VALUES[1::3], repeat=n):
            a = worth_at(M, one, values)
            b = worth_at(M, other, values)
            self.assertEqual(worth_at(M, both, values), (a + b) % M)
            self.assertEqual(worth_at(M, product, values), a * b % M)

    def test_turned_forms_of_any_forms(self):
        chance = random.Random(13)
        for M in WHEELS:
            for n in (1, 2):
                for turn in TURNS:
                    one = some_form(chance, M, n, 5, 6)
                    told = turned_form(M, n, turn, one)
                    pairs = [(exponents, c * turn[0]) for exponents, c in one]
                    self.assertTrue(is_form(M, n, told))
                    self.assertEqual(told, collected(M, pairs + [((0,) * n, turn[1])]))
                    for values in itertools.product(VALUES[::3], repeat=n):
                        worth = turn[0] * worth_at(M, one, values) + turn[1]
                        self.assertEqual(worth_at(M, told, values), worth % M)


class Put(unittest.TestCase):
    def test_one_into_one(self):
        square = (((2,), 1),)
        line = (((0,), 1), ((1,), 2))
        self.assertEqual(put(7, 1, square, [line]), (((0,), 1), ((1,), 4), ((2,), 4)))
        self.assertEqual(put(7, 1, line, (square,)), (((0,), 1), ((2,), 2)))

    def test_one_in_two_unknowns_into_one(self):
        self.assertEqual(
            put(7, 2, (((0,), 3), ((2,), 1)), [(((0, 1), 1), ((1, 0), 6))]),
            (((0, 0), 3), ((0, 2), 1), ((1, 1), 5), ((2, 0), 1)),
        )

    def test_two_into_two(self):
        outer = (((0, 1), 2), ((2, 0), 1))
        y = (((0, 1), 1),)
        line = (((0, 0), 1), ((1, 0), 1))
        self.assertEqual(put(7, 2, outer, [y, line]), (((0, 0), 2), ((0, 2), 1), ((1, 0), 2)))
        self.assertEqual(put(7, 2, outer, (line, y)), (((0, 0), 1), ((0, 1), 2), ((1, 0), 2), ((2, 0), 1)))

    def test_two_in_one_unknown_into_two(self):
        outer = (((0, 1), 1), ((1, 1), 1))
        self.assertEqual(put(7, 1, outer, [(((1,), 2),), (((0,), 3), ((1,), 1))]), (((0,), 3), ((2,), 2)))

    def test_outer_form_of_no_term(self):
        x = (((1,), 1),)
        both = (((1, 1), 1),)
        self.assertEqual(put(7, 1, (), [x]), ())
        self.assertEqual(put(7, 1, (), (x, x)), ())
        self.assertEqual(put(7, 2, (), [both]), ())
        self.assertEqual(put(7, 2, (), (both, both)), ())
        self.assertEqual(put(7, 2, (), ((), ())), ())

    def test_inner_forms_of_no_term(self):
        self.assertEqual(put(7, 1, (((0,), 4), ((1,), 5)), [()]), (((0,), 4),))
        self.assertEqual(put(7, 2, (((0,), 4), ((1,), 5)), [()]), (((0, 0), 4),))
        self.assertEqual(put(7, 2, (((1,), 5),), [()]), ())
        outer = (((0, 0), 1), ((0, 1), 2), ((1, 0), 3), ((1, 1), 4))
        x = (((1,), 1),)
        self.assertEqual(put(7, 1, outer, [(), x]), (((0,), 1), ((1,), 2)))
        self.assertEqual(put(7, 1, outer, [x, ()]), (((0,), 1), ((1,), 3)))
        self.assertEqual(put(7, 2, outer, [(), ()]), (((0, 0), 1),))

    def test_constants(self):
        outer = (((0, 0), 1), ((2, 1), 3))
        self.assertEqual(put(101, 2, outer, [(((0, 0), 2),), (((0, 0), 5),)]), (((0, 0), 61),))
        self.assertEqual(put(61, 2, outer, [(((0, 0), 2),), (((0, 0), 5),)]), ())
        self.assertEqual(put(61, 1, (((0,), 6),), [(((3,), 2),)]), (((0,), 6),))

    def test_any_forms(self):
        chance = random.Random(17)
        for M in WHEELS:
            for m in (1, 2):
                for n in (1, 2):
                    for time in range(12):
                        outer = some_form(chance, M, m, 3, 5)
                        inners = [some_form(chance, M, n, 2, 4) for unknown in range(m)]
                        self.check_put(M, n, outer, inners)

    def check_put(self, M, n, outer, inners):
        kept = list(inners)
        told = put(M, n, outer, inners)
        self.assertEqual(inners, kept)
        self.assertTrue(is_form(M, n, told))
        self.assertEqual(told, naive_put(M, n, outer, inners))
        self.assertEqual(put(M, n, outer, tuple(inners)), told)
        for values in itertools.product(VALUES[1::2], repeat=n):
            worths = [worth_at(M, inner, values) for inner in inners]
            self.assertEqual(worth_at(M, told, values), worth_at(M, outer, worths))

    def test_far_exponents(self):
        line = (((0,), 1), ((1,), 1))
        told = put(GREAT, 1, (((64,), 1),), [line])
        row = [1]
        for time in range(64):
            row = [a + b for a, b in zip([0] + row, row + [0])]
        self.assertEqual(told, tuple(((e,), c) for e, c in enumerate(row)))
        two = (((0, 1), 1), ((1, 0), 1))
        told = put(GREAT, 2, (((63, 1), 1),), [two, two])
        self.assertEqual(told, tuple(((e, 64 - e), c) for e, c in enumerate(row)))


class Parting(unittest.TestCase):
    def bump(self, M, point):
        """A form worth 1 at the point and 0 at the other points of 0, 1 and 2."""
        half = (M + 1) // 2
        rows = (
            (1, -3 * half, half),
            (0, 2, -1),
            (0, -half, half),
        )
        pairs = []
        for exponents in itertools.product(range(3), repeat=len(point)):
            c = 1
            for value, e in zip(point, exponents):
                c *= rows[value][e]
            pairs.append((exponents, c))
        return form(M, len(point), pairs)

    def test_the_same_forms_do_not_part(self):
        chance = random.Random(19)
        for M in WHEELS:
            for n in (1, 2):
                self.assertIsNone(parting(M, n, (), ()))
                for time in range(20):
                    one = some_form(chance, M, n, 2, 9)
                    self.assertIsNone(parting(M, n, one, tuple(list(one))))

    def test_in_one_unknown_by_hand(self):
        x = (((1,), 1),)
        self.assertEqual(parting(5, 1, x, ()), (1,))
        self.assertEqual(parting(5, 1, x, (((0,), 1),)), (0,))
        self.assertEqual(parting(5, 1, x, (((2,), 1),)), (2,))
        self.assertEqual(parting(3, 1, (((2,), 1),), x), (2,))
        self.assertEqual(parting(3, 1, (((0,), 1),), (((2,), 1),)), (0,))

    def test_in_two_unknowns_by_hand(self):
        self.assertEqual(parting(5, 2, (((0, 1), 1),), ()), (0, 1))
        self.assertEqual(parting(5, 2, (((1, 0), 1),), ()), (1, 0))
        self.assertEqual(parting(5, 2, (((0, 1), 1),), (((0, 2), 1),)), (0, 2))
        self.assertEqual(parting(5, 2, (((1, 1), 1),), (((2, 1), 1),)), (2, 1))
        self.assertEqual(parting(5, 2, (((0, 0), 1),), ()), (0, 0))

    def test_each_point_alone(self):
        for M in WHEELS:
            for n in (1, 2):
                for point in itertools.product(range(3), repeat=n):
                    bump = self.bump(M, point)
                    for other in ((), (((0,) * n, 1),), (((2,) * n, 1), ), self.bump(M, (2,) * n)):
                        one = plus(M, bump, other)
                        self.assertEqual(parting(M, n, one, other), point)
                        self.assertEqual(parting(M, n, other, one), point)

    def test_worths_that_part_by_a_divisor_of_the_wheel(self):
        for point in itertools.product(range(3), repeat=2):
            third = times(9, self.bump(9, point), (((0, 0), 3),))
            self.assertEqual(parting(9, 2, third, ()), point)

    def test_the_first_of_two_points(self):
        for M in (3, 9, GREAT):
            for n in (1, 2):
                points = list(itertools.product(range(3), repeat=n))
                for first, second in itertools.combinations(points, 2):
                    one = plus(M, self.bump(M, first), self.bump(M, second))
                    self.assertEqual(parting(M, n, one, ()), first)
                    self.assertEqual(parting(M, n, self.bump(M, second), self.bump(M, first)), first)

    def test_all_forms_on_the_least_wheel(self):
        for counts in itertools.product(range(3), repeat=3):
            one = form(3, 1, [((e,), c) for e, c in enumerate(counts)])
            for others in itertools.product(range(3), repeat=3):
                other = form(3, 1, [((e,), c) for e, c in enumerate(others)])
                unlike = [(x,) for x in range(3) if naive_worth(3, one, (x,)) != naive_worth(3, other, (x,))]
                self.assertEqual(parting(3, 1, one, other), unlike[0] if unlike else None)
                self.assertEqual(not unlike, one == other)


if __name__ == "__main__":
    unittest.main()
