"""What several test files need: books made by chance (from a fixed seed), and plain reckonings to hold answers against.

The reckonings are written by themselves, so that what is told is held against other code; the program
is drawn on to make books, to leave out those that are not even where even ones are wanted, and samples with
too many readings, alone.
"""

import itertools
import random

from chiefway.books import book
from chiefway.counting import counts
from chiefway.looks import even

GREAT = 10 ** 60 - 1
WHEELS = (3, 5, 7, 9, 15, 101, GREAT)
NAMES = ("cm", "sq", "kg", "h", "deg", "foot")


def all_tuples(thing):
    """Whether a thing is tuples, texts and whole numbers all through."""
    if type(thing) is tuple:
        return all(all_tuples(one) for one in thing)
    return type(thing) in (str, int)


def naive_worth(M, form, values):
    total = 0
    for exponents, c in form:
        for e, value in zip(exponents, values):
            c = c * value ** e
        total += c
    return total % M


def naive_ways(told, j, k):
    """Every tuple of roads' numbers that leads from j to k, found from all walks that leave j, then sorted."""
    found = []
    walks = [((), j)]
    while walks:
        walk, at = walks.pop()
        if at == k:
            found.append(walk)
        for number, road in enumerate(told[2]):
            if road[0] == at:
                walks.append((walk + (number,), road[1]))
    return sorted(found)


def along(told, way, x):
    """x turned road by road."""
    for number in way:
        x = (told[2][number][2] * x + told[2][number][3]) % told[0]
    return x


def all_kinds(told):
    return range(len(told[1]))


def any_terms(chance, M, n):
    terms = []
    for term in range(chance.randrange(4)):
        terms.append((tuple(chance.randrange(3) for unknown in range(n)), chance.randrange(-M, 2 * M)))
    return terms


def any_roads(chance, M, many, most):
    roads = []
    for road in range(chance.randrange(most + 1) if many > 1 else 0):
        j, k = sorted(chance.sample(range(many), 2))
        roads.append((j, k, chance.randrange(M), chance.randrange(M), chance.randrange(4)))
    return roads


def any_book(chance, M):
    """A book of which nothing is known; few of them are even."""
    many = chance.randrange(1, 7)
    makes = []
    for make in range(chance.randrange(6)):
        takes = tuple(chance.randrange(many) for one in range(chance.choice((1, 1, 2))))
        name = chance.choice(("f", "g"))
        makes.append((name, takes, chance.randrange(many), any_terms(chance, M, len(takes)), chance.randrange(4)))
    return book(M, list(NAMES[:many]), any_roads(chance, M, many, 7), makes)


def power_of_turn(turn, e):
    """(a x + b) to the power e, as a list of the factors of 1, x, x x."""
    a, b = turn
    return ([1, 0, 0], [b, a, 0], [b * b, 2 * a * b, a * a])[e]


def seen_terms(terms, turns):
    """Terms with, for each unknown x, a x + b put in."""
    pairs = []
    for exponents, c in terms:
        powers = [power_of_turn(turn, e) for turn, e in zip(turns, exponents)]
        for others in itertools.product(range(3), repeat=len(exponents)):
            factor = c
            for power, other in zip(powers, others):
                factor *= power[other]
            if factor:
                pairs.append((others, factor))
    return pairs


def inverse(M, turn):
    a = pow(turn[0], -1, M)
    return (a, -a * turn[1] % M)


def aligned_book(chance, M, many, roads, makes):
    """A book where each kind is a scale for the same numbers, and each make of a deed reckons the same.

    Its ways never part, and no make falls short by values; it is even where no deed lacks a make
    whose scale leads to that of all others that fit.
    """
    units = [a for a in range(1, min(M, 100)) if pow_is_unit(M, a)]
    scales = [(chance.choice(units), chance.randrange(M)) for kind in range(many)]
    told_roads = []
    for j, k in roads:
        a, b = inverse(M, scales[j])
        c, d = scales[k]
        told_roads.append((j, k, a * c, b * c + d, chance.randrange(4)))
    deeds = {(name, len(takes)): any_terms(chance, M, len(takes)) for name, takes, gives in makes}
    told_makes = []
    for name, takes, gives in makes:
        terms = seen_terms(deeds[(name, len(takes))], [inverse(M, scales[kind]) for kind in takes])
        a, b = scales[gives]
        terms = [(exponents, a * c) for exponents, c in terms] + [((0,) * len(takes), b)]
        told_makes.append((name, takes, gives, terms, chance.randrange(4)))
    return book(M, list(NAMES[:many]), told_roads, told_makes)


def pow_is_unit(M, a):
    try:
        pow(a, -1, M)
    except ValueError:
        return False
    return True


def any_aligned_book(chance, M):
    many = chance.randrange(1, 5)
    roads = []
    for road in range(chance.randrange(7) if many > 1 else 0):
        roads.append(tuple(sorted(chance.sample(range(many), 2))))
    makes = []
    for name, n, most in (("f", 1, 3), ("g", 2, 3), ("f", 2, 2)):
        for make in range(chance.randrange(most + 1)):
            makes.append((name, tuple(chance.randrange(many) for one in range(n)), chance.randrange(many)))
    chance.shuffle(makes)
    return aligned_book(chance, M, many, roads, makes)


HEADS = ("x", "y", "z")


def any_heads(chance, told, most):
    return [(x, chance.choice(all_kinds(told))) for x in HEADS[:chance.randrange(most + 1)]]


def any_part(chance, told, names, size, lets=2, rounds=2):
    """A part of about that size, in which the names are known; it may be one that no reading has."""
    if size <= 1:
        if names and chance.randrange(3):
            return ("name", chance.choice(names))
        return ("number", chance.randrange(told[0]), chance.choice(all_kinds(told)))
    kind = chance.choice(all_kinds(told))
    new = "u" + "abcdefg"[len(names) % 7] * (1 + len(names) // 7)
    what = chance.choice(("use", "use", "use", "let", "pick", "again"))
    if what == "use" and told[3]:
        make = chance.choice(told[3])
        shares = shared(chance, size - 1, len(make[1]))
        return ("use", make[0], tuple(any_part(chance, told, names, one, 0, rounds) for one in shares))
    if what == "let" and lets:
        first, second = shared(chance, size - 1, 2)
        return ("let", new, any_part(chance, told, names, first, 0, rounds),
                any_part(chance, told, names + [new], second, lets - 1, rounds))
    if what == "again" and rounds:
        first, second = shared(chance, size - 1, 2)
        return ("again", chance.randrange(4), kind, new, any_part(chance, told, names, first, 0, rounds),
                any_part(chance, told, names + [new], second, lets, rounds - 1))
    shares = shared(chance, size - 1, 3)
    return ("pick", chance.choice(all_kinds(told)), kind) + tuple(
        any_part(chance, told, names, one, 0, rounds) for one in shares)


def readable_part(chance, told, heads, size, lets=2, rounds=2):
    """A part of at most that size that has readings, put together of ones that have."""
    if size <= 1:
        return any_part(chance, told, [x for x, k in heads], 1)
    what = chance.choice(("use", "use", "use", "let", "pick", "again"))
    first, second = shared(chance, size - 1, 2)
    new = "u" + "abcdefgh"[len(heads)]
    one = readable_part(chance, told, heads, first, 0, rounds)
    if what == "let" and lets:
        j = chance.choice([k for k in all_kinds(told) if counts(told, heads, one)[k]])
        return ("let", new, one, readable_part(chance, told, list(heads) + [(new, j)], second, lets - 1, rounds))
    if what == "again" and rounds:
        k = chance.choice([k for k in all_kinds(told) if counts(told, heads, one)[k]])
        two = readable_part(chance, told, list(heads) + [(new, k)], second, lets, rounds - 1)
        return readable_one(chance, told, heads, [one, one, ("again", chance.randrange(4), k, new, one, two)])
    two = readable_part(chance, told, heads, second, 0, rounds)
    if what == "pick":
        three = readable_part(chance, told, heads, 1)
        kinds = [(c, k) for c in all_kinds(told) for k in all_kinds(told)]
        return readable_one(chance, told, heads, [one, two] + [("pick", c, k, one, two, three) for c, k in kinds])
    parts = [("use", make[0], (one, two)[:len(make[1])]) for make in told[3]]
    return readable_one(chance, told, heads, [one, two] + parts)


def readable_one(chance, told, heads, parts):
    """One of the parts that has readings: one of the first two, only where no other one has any."""
    readable = [part for part in parts if any(counts(told, heads, part))]
    return chance.choice(readable[2:] or readable)


def shared(chance, size, many):
    shares = [1] * many
    for one in range(size - many):
        shares[chance.randrange(many)] += 1
    return shares


def naive_readings(told, heads, part, kind):
    """All readings of the part at the kind, in their order (24), told one by one as point 22 tells them."""
    known = dict(heads)
    if part[0] == "name":
        return [part + (way,) for way in naive_ways(told, known[part[1]], kind)]
    if part[0] == "number":
        return [part + (way,) for way in naive_ways(told, part[2], kind)]
    found = []
    if part[0] == "use":
        for v, (name, takes, gives, form, price) in enumerate(told[3]):
            if name == part[1] and len(takes) == len(part[2]):
                args = [naive_readings(told, heads, one, k) for one, k in zip(part[2], takes)]
                for readings in itertools.product(*args):
                    found += [("use", v, readings, way) for way in naive_ways(told, gives, kind)]
    elif part[0] == "let":
        tag, x, one, two = part
        for j in all_kinds(told):
            for r in naive_readings(told, heads, one, j):
                found += [("let", x, j, r, s) for s in naive_readings(told, list(heads) + [(x, j)], two, kind)]
    elif part[0] == "pick":
        tag, c, k, ask, one, two = part
        for q in naive_readings(told, heads, ask, c):
            for r in naive_readings(told, heads, one, k):
                for s in naive_readings(told, heads, two, k):
                    found += [("pick", c, k, q, r, s, way) for way in naive_ways(told, k, kind)]
    else:
        tag, n, k, x, one, two = part
        for r in naive_readings(told, heads, one, k):
            for s in naive_readings(told, list(heads) + [(x, k)], two, k):
                found += [("again", n, k, x, r, s, way) for way in naive_ways(told, k, kind)]
    return found


def naive_value(told, reading, given):
    """What a reading is worth, by point 23."""
    if reading[0] == "let":
        tag, x, j, r, s = reading
        return naive_value(told, s, {**given, x: naive_value(told, r, given)})
    if reading[0] == "name":
        value = given[reading[1]]
    elif reading[0] == "number":
        value = reading[1]
    elif reading[0] == "use":
        values = [naive_value(told, one, given) for one in reading[2]]
        value = naive_worth(told[0], told[3][reading[1]][3], values)
    elif reading[0] == "pick":
        ask = naive_value(told, reading[3], given)
        value = naive_value(told, reading[5] if ask == 0 else reading[4], given)
    else:
        tag, n, k, x, r, s, way = reading
        value = naive_value(told, r, given)
        for time in range(n):
            value = naive_value(told, s, {**given, x: value})
    return along(told, reading[-1], value)


def any_given(chance, told, heads):
    return {x: chance.choice((0, 1, chance.randrange(told[0]))) for x, k in heads}


def samples(seed, wheels, many, make_book, size, most=3000):
    """Books with heads and parts of chance, such that all readings at all kinds can be told one by one.

    Each comes with its readings: a list with, for each kind, the list of those there.
    """
    chance = random.Random(seed)
    for M in wheels:
        for time in range(many):
            told = make_book(chance, M)
            heads = any_heads(chance, told, 3)
            part = any_part(chance, told, [x for x, k in heads], chance.randrange(1, size))
            if time % 3:
                part = readable_part(chance, told, heads, chance.randrange(1, size))
            if sum(counts(told, heads, part)) <= most:
                yield told, heads, part, [naive_readings(told, heads, part, kind) for kind in all_kinds(told)]


def points(n):
    return list(itertools.product(range(3), repeat=n))


def naive_fits(told, v, kinds):
    takes = told[3][v][1]
    return len(takes) == len(kinds) and all(naive_ways(told, j, k) for j, k in zip(kinds, takes))


def naive_seen(told, v, kinds, values):
    """What the make is worth where the values stand at the kinds."""
    name, takes, gives, form, price = told[3][v]
    brought = [along(told, naive_ways(told, j, k)[0], x) for j, k, x in zip(kinds, takes, values)]
    return naive_worth(told[0], form, brought)


def naive_shortfall(told, m, v, kinds):
    found = naive_ways(told, told[3][m][2], told[3][v][2])
    if not found:
        return ()
    for values in points(len(kinds)):
        if along(told, found[0], naive_seen(told, m, kinds, values)) != naive_seen(told, v, kinds, values):
            return values
    return None


def naive_fitting(told, name, kinds):
    return [v for v, make in enumerate(told[3]) if make[0] == name and naive_fits(told, v, kinds)]


def naive_chief(told, name, kinds):
    fitting = naive_fitting(told, name, kinds)
    for m in fitting:
        if all(naive_shortfall(told, m, v, kinds) is None for v in fitting):
            return m
    return None


def any_even_book(chance, M):
    """An even book: mostly one whose kinds are scales for the same numbers."""
    while True:
        told = chance.choice((any_aligned_book, any_aligned_book, any_book))(chance, M)
        if even(told) and (len(told[3]) > 1 or chance.randrange(5) == 0):
            return told


def naive_chief_reading(told, heads, part):
    """The chief kind and reading by point 26, or None."""
    known = dict(heads)
    if part[0] == "name":
        return (known[part[1]], part + ((),))
    if part[0] == "number":
        return (part[2], part + ((),))
    if part[0] == "let":
        one = naive_chief_reading(told, heads, part[2])
        two = one and naive_chief_reading(told, list(heads) + [(part[1], one[0])], part[3])
        return two and (two[0], ("let", part[1]) + one + (two[1],))
    if part[0] == "use":
        chiefs = [naive_chief_reading(told, heads, one) for one in part[2]]
        v = None if None in chiefs else naive_chief(told, part[1], tuple(one[0] for one in chiefs))
        if v is None:
            return None
        readings = naive_carried_all(told, chiefs, told[3][v][1])
        return (told[3][v][2], ("use", v, tuple(readings), ()))
    k = part[2]
    if part[0] == "pick":
        chiefs = [naive_chief_reading(told, heads, one) for one in part[3:]]
        readings = naive_carried_all(told, chiefs, (part[1], k, k))
        return readings and (k, part[:3] + tuple(readings) + ((),))
    chiefs = [naive_chief_reading(told, heads, part[4]),
              naive_chief_reading(told, list(heads) + [(part[3], k)], part[5])]
    readings = naive_carried_all(told, chiefs, (k, k))
    return readings and (k, part[:4] + tuple(readings) + ((),))


def naive_carried_all(told, chiefs, kinds):
    readings = []
    for found, k in zip(chiefs, kinds):
        if found is None or not naive_ways(told, found[0], k):
            return None
        readings.append(naive_carried(told, found[1], found[0], k))
    return readings


def naive_carried(told, reading, j, k):
    if reading[0] == "let":
        return reading[:4] + (naive_carried(told, reading[4], j, k),)
    return reading[:-1] + (reading[-1] + naive_ways(told, j, k)[0],)
