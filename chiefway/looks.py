"""Whether a book is even, and what shows it where it is not."""

from chiefway.forms import form, parting, put, turned_form
from chiefway.wheels import turned
from chiefway.ways import first_way, leads, turn_of, ways


def way_fault(book):
    many = len(book[1])
    for j in range(many):
        for k in range(j + 1, many):
            found = unlike_ways(book, j, k)
            if found is not None:
                return found
    return None


def unlike_ways(book, j, k):
    told = ways(book, j, k)
    for other in told:
        x = turns_part(book, told[0], other)
        if x is not None:
            return (j, k, told[0], other, x)
    return None


def turns_part(book, one, other):
    # Turns that agree at 0 and at 1 are the same turn.
    for x in range(2):
        if turned(book[0], turn_of(book, one), x) != turned(book[0], turn_of(book, other), x):
            return x
    return None


def fits(book, v, kinds):
    takes = book[3][v][1]
    if len(takes) != len(kinds):
        return False
    return all([leads(book, kind, taken) for kind, taken in zip(kinds, takes)])


def seen_form(book, v, kinds):
    M = book[0]
    n = len(kinds)
    inners = []
    for place, kind in enumerate(kinds):
        turn = turn_of(book, first_way(book, kind, book[3][v][1][place]))
        inners.append(turned_form(M, n, turn, unknown(M, n, place)))
    return put(M, n, book[3][v][3], inners)


def unknown(M, n, place):
    return form(M, n, [(tuple([1 if other == place else 0 for other in range(n)]), 1)])


def shortfall(book, m, v, kinds):
    return seen_shortfall(book, m, v, {m: seen_form(book, m, kinds), v: seen_form(book, v, kinds)})


def seen_shortfall(book, m, v, seen):
    way = first_way(book, book[3][m][2], book[3][v][2])
    if way is None:
        return ()
    n = len(book[3][m][1])
    one = turned_form(book[0], n, turn_of(book, way), seen[m])
    return parting(book[0], n, one, seen[v])


def seen_forms(book, name, kinds):
    """The makes of the deed that fit the kinds, rising, each with its form seen from there."""
    seen = {}
    for v, make in enumerate(book[3]):
        if make[0] == name and fits(book, v, kinds):
            seen[v] = seen_form(book, v, kinds)
    return seen


def first_shortfall(book, m, seen):
    """A tuple of the least make against which m falls short, and how; None, where there is none."""
    for v in seen:
        values = seen_shortfall(book, m, v, seen)
        if values is not None:
            return (v, values)
    return None


def chief_make(book, name, kinds):
    return chief_of(book, seen_forms(book, name, kinds))


def chief_of(book, seen):
    for m in seen:
        if first_shortfall(book, m, seen) is None:
            return m
    return None


def make_fault(book):
    for name, n in deeds(book):
        for kinds in kind_tuples(len(book[1]), n):
            seen = seen_forms(book, name, kinds)
            if len(seen) > 0 and chief_of(book, seen) is None:
                return (name, kinds, [(m,) + first_shortfall(book, m, seen) for m in seen])
    return None


def deeds(book):
    """Names and how many are taken, in the order of the deeds' first makes."""
    told = []
    for make in book[3]:
        deed = (make[0], len(make[1]))
        if deed not in told:
            told.append(deed)
    return told


def kind_tuples(many, n):
    if n == 1:
        return [(kind,) for kind in range(many)]
    return [(pair // many, pair % many) for pair in range(many * many)]


def fault(book):
    found = way_fault(book)
    if found is not None:
        return ("ways",) + found
    found = make_fault(book)
    if found is not None:
        return ("makes",) + found
    return None


def even(book):
    return fault(book) is None
