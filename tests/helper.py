"""What several test files need: books made by chance (from a fixed seed), and plain reckonings to hold answers against.

Nothing here draws on the program but for making books, so that what is told is held against other code.
"""

import itertools

from chiefway.books import book

GREAT = 10 ** 60 - 1
WHEELS = (3, 5, 7, 9, 15, 101, GREAT)
NAMES = ("cm", "sq", "kg", "h", "deg", "foot")


def all_tuples(thing):
    """Whether a thing is tuples, texts and whole numbers all through."""
    if type(thing) is tuple:
        return all(all_tuples(one) for one in thing)
    return type(thing) in (str, int)


def naive_worth(M, form, values):
    total = 0
    for exponents, c in form:
        for e, value in zip(exponents, values):
            c = c * value ** e
        total += c
    return total % M


def naive_ways(told, j, k):
    """Every tuple of roads' numbers that leads from j to k, found from all walks that leave j, then sorted."""
    found = []
    walks = [((), j)]
    while walks:
        walk, at = walks.pop()
        if at == k:
            found.append(walk)
        for number, road in enumerate(told[2]):
            if road[0] == at:
                walks.append((walk + (number,), road[1]))
    return sorted(found)


def along(told, way, x):
    """x turned road by road."""
    for number in way:
        x = (told[2][number][2] * x + told[2][number][3]) % told[0]
    return x


def all_kinds(told):
    return range(len(told[1]))


def any_terms(chance, M, n):
    terms = []
    for term in range(chance.randrange(4)):
        terms.append((tuple(chance.randrange(3) for unknown in range(n)), chance.randrange(-M, 2 * M)))
    return terms


def any_roads(chance, M, many, most):
    roads = []
    for road in range(chance.randrange(most + 1) if many > 1 else 0):
        j, k = sorted(chance.sample(range(many), 2))
        roads.append((j, k, chance.randrange(M), chance.randrange(M), chance.randrange(4)))
    return roads


def any_book(chance, M):
    """A book of which nothing is known; few of them are even."""
    many = chance.randrange(1, 7)
    makes = []
    for make in range(chance.randrange(6)):
        takes = tuple(chance.randrange(many) for one in range(chance.choice((1, 1, 2))))
        name = chance.choice(("f", "g"))
        makes.append((name, takes, chance.randrange(many), any_terms(chance, M, len(takes)), chance.randrange(4)))
    return book(M, list(NAMES[:many]), any_roads(chance, M, many, 7), makes)


def power_of_turn(turn, e):
    """(a x + b) to the power e, as a list of the factors of 1, x, x x."""
    a, b = turn
    return ([1, 0, 0], [b, a, 0], [b * b, 2 * a * b, a * a])[e]


def seen_terms(terms, turns):
    """Terms with, for each unknown x, a x + b put in."""
    pairs = []
    for exponents, c in terms:
        powers = [power_of_turn(turn, e) for turn, e in zip(turns, exponents)]
        for others in itertools.product(range(3), repeat=len(exponents)):
            factor = c
            for power, other in zip(powers, others):
                factor *= power[other]
            if factor:
                pairs.append((others, factor))
    return pairs


def inverse(M, turn):
    a = pow(turn[0], -1, M)
    return (a, -a * turn[1] % M)


def aligned_book(chance, M, many, roads, makes):
    """A book where each kind is a scale for the same numbers, and each make of a deed reckons the same.

    Its ways never part, and no make falls short by values; it is even where no deed lacks a make
    whose scale leads to that of all others that fit.
    """
    units = [a for a in range(1, min(M, 100)) if pow_is_unit(M, a)]
    scales = [(chance.choice(units), chance.randrange(M)) for kind in range(many)]
    told_roads = []
    for j, k in roads:
        a, b = inverse(M, scales[j])
        c, d = scales[k]
        told_roads.append((j, k, a * c, b * c + d, chance.randrange(4)))
    deeds = {(name, len(takes)): any_terms(chance, M, len(takes)) for name, takes, gives in makes}
    told_makes = []
    for name, takes, gives in makes:
        terms = seen_terms(deeds[(name, len(takes))], [inverse(M, scales[kind]) for kind in takes])
        a, b = scales[gives]
        terms = [(exponents, a * c) for exponents, c in terms] + [((0,) * len(takes), b)]
        told_makes.append((name, takes, gives, terms, chance.randrange(4)))
    return book(M, list(NAMES[:many]), told_roads, told_makes)


def pow_is_unit(M, a):
    try:
        pow(a, -1, M)
    except ValueError:
        return False
    return True


def any_aligned_book(chance, M):
    many = chance.randrange(1, 5)
    roads = []
    for road in range(chance.randrange(7) if many > 1 else 0):
        roads.append(tuple(sorted(chance.sample(range(many), 2))))
    makes = []
    for name, n, most in (("f", 1, 3), ("g", 2, 3), ("f", 2, 2)):
        for make in range(chance.randrange(most + 1)):
            makes.append((name, tuple(chance.randrange(many) for one in range(n)), chance.randrange(many)))
    chance.shuffle(makes)
    return aligned_book(chance, M, many, roads, makes)
