"""Forms in one or two unknowns, reckoned with as with letters."""

from chiefway.errors import NoForm
from chiefway.wheels import on


def form(M, n, terms):
    if n != 1 and n != 2:
        raise NoForm("a form has one or two unknowns")
    sums = {}
    for exponents, c in terms:
        check_exponents(n, exponents)
        sums[exponents] = sums.get(exponents, 0) + c
    return form_of(M, sums)


def check_exponents(n, exponents):
    if len(exponents) != n:
        raise NoForm("a term has one exponent for each unknown")
    for exponent in exponents:
        if exponent < 0 or exponent > 8:
            raise NoForm("an exponent is from 0 to 8")


def form_of(M, sums):
    # No two keys are alike, so the pairs are sorted by their exponents alone.
    return tuple([(exponents, on(M, c)) for exponents, c in sorted(sums.items()) if on(M, c) != 0])


def plus(M, one, other):
    sums = dict(one)
    for exponents, c in other:
        sums[exponents] = sums.get(exponents, 0) + c
    return form_of(M, sums)


def times(M, one, other):
    sums = {}
    for exponents, c in one:
        for others, d in other:
            both = added(exponents, others)
            sums[both] = sums.get(both, 0) + c * d
    return form_of(M, sums)


def added(exponents, others):
    # Written out for one and for two: no other step is done as often.
    if len(exponents) == 1:
        return (exponents[0] + others[0],)
    return (exponents[0] + others[0], exponents[1] + others[1])


def constant(M, n, c):
    return form_of(M, {(0,) * n: c})


def turned_form(M, n, turn, one):
    return plus(M, times(M, constant(M, n, turn[0]), one), constant(M, n, turn[1]))


def put(M, n, outer, inners):
    last = len(inners) - 1
    powers = powers_of(M, n, inners[last], greatest(outer, last))
    factors = {}
    for exponents, c in outer:
        ahead = exponents[:last]
        part = turned_form(M, n, (c, 0), powers[exponents[last]])
        factors[ahead] = plus(M, factors.get(ahead, ()), part)
    if last == 0:
        return factors.get((), ())
    return by_powers(M, inners[0], greatest(outer, 0), factors)


def greatest(one, place):
    return max([exponents[place] for exponents, c in one], default=0)


def powers_of(M, n, one, most):
    powers = [constant(M, n, 1)]
    for exponent in range(most):
        powers.append(times(M, powers[exponent], one))
    return powers


def by_powers(M, inner, most, factors):
    # From the greatest power down: so each step multiplies by the inner form alone,
    # and never by one of its long powers.
    total = ()
    for exponent in range(most, -1, -1):
        total = plus(M, times(M, total, inner), factors.get((exponent,), ()))
    return total


def worth_at(M, one, values):
    total = 0
    for exponents, c in one:
        product = c
        for exponent, value in zip(exponents, values):
            product = product * power(M, value, exponent)
        total = total + product
    return on(M, total)


def power(M, value, exponent):
    product = 1
    for factor in range(exponent):
        product = on(M, product * value)
    return product


def parting(M, n, one, other):
    # No test for sameness is needed: 0, 1 and 2 differ by 1 and 2, which have inverses on an
    # odd wheel, so forms with no exponent above 2 that agree at all these points are the same.
    for point in points(n):
        if worth_at(M, one, point) != worth_at(M, other, point):
            return point
    return None


def points(n):
    if n == 1:
        return [(x,) for x in range(3)]
    return [(x // 3, x % 3) for x in range(9)]
