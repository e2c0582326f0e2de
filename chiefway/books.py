"""Names, and books: a wheel, kinds, roads and makes, looked at and made."""

from chiefway.errors import NoForm, NoKind, NoMake, NoRoad
from chiefway.forms import form
from chiefway.wheels import on, wheel

WORDS = ("let", "in", "pick", "again")
MOST_KINDS = 6
MOST_ROADS = 12
MOST_MAKES = 16
MOST_OF_A_DEED = 6
MOST_POWER = 2


def is_name(text):
    if len(text) < 1 or len(text) > 8 or text in WORDS:
        return False
    return all(["a" <= sign <= "z" for sign in text])


def book(M, kinds, roads, makes):
    wheel(M)
    check_kinds(kinds)
    # The roads are looked at ahead of the makes: the first refusal that is due is the one told.
    return (M, tuple(kinds), roads_of(M, len(kinds), roads), makes_of(M, len(kinds), makes))


def check_kinds(kinds):
    if len(kinds) < 1 or len(kinds) > MOST_KINDS:
        raise NoKind("a book has one to six kinds")
    for number, kind in enumerate(kinds):
        if not is_name(kind):
            raise NoKind("a kind is a name")
        if kind in kinds[:number]:
            raise NoKind("a kind stands once in a book")


def roads_of(M, many, roads):
    if len(roads) > MOST_ROADS:
        raise NoRoad("a book has at most twelve roads")
    told = []
    for j, k, a, b, price in roads:
        if not (0 <= j < k < many):
            raise NoRoad("a road leads from a kind to a later one")
        if not is_price(price):
            raise NoRoad("a price is from 0 to 10 ** 30")
        told.append((j, k, on(M, a), on(M, b), price))
    return tuple(told)


def is_price(price):
    return 0 <= price <= 10 ** 30


def makes_of(M, many, makes):
    if len(makes) > MOST_MAKES:
        raise NoMake("a book has at most sixteen makes")
    told = []
    for name, takes, gives, terms, price in makes:
        check_make(many, name, takes, gives, price)
        told.append((name, tuple(takes), gives, make_form(M, len(takes), terms), price))
    check_deeds(told)
    return tuple(told)


def check_make(many, name, takes, gives, price):
    if not is_name(name):
        raise NoMake("a deed is told by a name")
    if len(takes) != 1 and len(takes) != 2:
        raise NoMake("a make takes one or two")
    for kind in list(takes) + [gives]:
        if not (0 <= kind < many):
            raise NoMake("what a make takes and gives are kinds")
    if not is_price(price):
        raise NoMake("a price is from 0 to 10 ** 30")


def make_form(M, n, terms):
    try:
        told = form(M, n, terms)
    except NoForm as e:
        raise NoMake("a make's terms are those of a form") from e
    # The pairs themselves are looked at: one that is no term of the form counts too.
    for exponents, c in terms:
        if max(exponents) > MOST_POWER:
            raise NoMake("no exponent of a make is above 2")
    return told


def check_deeds(makes):
    counted = {}
    for name, takes, gives, terms, price in makes:
        deed = (name, len(takes))
        counted[deed] = counted.get(deed, 0) + 1
        if counted[deed] > MOST_OF_A_DEED:
            raise NoMake("a deed has at most six makes")
