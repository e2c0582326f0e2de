"""Programs: their parts, and what is refused as a program."""

from chiefway.books import is_name
from chiefway.errors import NoDeed, NoHead, NoKind, NoName, NoNumber, TooBig

MOST_HEADS = 6
MOST_PARTS = 60
MOST_LETS = 2
MOST_DEPTH = 24
MOST_ROUNDS = 9


def inner(part):
    if part[0] == "use":
        return part[2]
    if part[0] == "let":
        return part[2:4]
    if part[0] == "pick":
        return part[3:6]
    if part[0] == "again":
        return part[4:6]
    return ()


def part_at(body, place):
    part = body
    for number in place:
        part = inner(part)[number]
    return part


def parts_in(part):
    return 1 + sum([parts_in(one) for one in inner(part)])


def lets_in(part):
    return (1 if part[0] == "let" else 0) + sum([lets_in(one) for one in inner(part)])


def depth_of(part):
    return 1 + max([depth_of(one) for one in inner(part)], default=0)


def name_within(part, number):
    """The name that becomes known in what stands right in the part under the number, or None."""
    if number != 1:
        return None
    if part[0] == "let":
        return part[1]
    if part[0] == "again":
        return part[3]
    return None


def program(book, heads, body):
    check_heads(book, heads)
    check_size(body)
    check_part(book, [x for x, k in heads], body)
    return (tuple([(x, k) for x, k in heads]), body)


def is_kind(book, k):
    return 0 <= k < len(book[1])


def check_heads(book, heads):
    if len(heads) > MOST_HEADS:
        raise NoHead("a program has at most six heads")
    known = []
    for x, k in heads:
        if not is_name(x) or x in known:
            raise NoHead("a head has a name of its own")
        if not is_kind(book, k):
            raise NoHead("a head has a kind")
        known.append(x)


def check_size(body):
    if parts_in(body) > MOST_PARTS:
        raise TooBig("a body has at most sixty parts")
    if lets_in(body) > MOST_LETS:
        raise TooBig("a body has at most two lets")
    if depth_of(body) > MOST_DEPTH:
        raise TooBig("a body is at most 24 deep")
    if too_round(body, 0):
        raise TooBig("no again stands within the two of two others")


def too_round(part, rounds):
    """Whether an again stands within the two of two others, the part itself standing within that many."""
    if part[0] != "again":
        return any([too_round(one, rounds) for one in inner(part)])
    return rounds >= 2 or too_round(part[4], rounds) or too_round(part[5], rounds + 1)


def check_part(book, known, part):
    CHECKS[part[0]](book, known, part)
    for number, one in enumerate(inner(part)):
        x = name_within(part, number)
        check_part(book, known if x is None else known + [x], one)


def check_name(book, known, part):
    if part[1] not in known:
        raise NoName("a name is used that is not known there")


def check_number(book, known, part):
    if not (0 <= part[1] < book[0]):
        raise NoNumber("a number is on the wheel")
    check_kind(book, part[2])


def check_kind(book, k):
    if not is_kind(book, k):
        raise NoKind("a part is meant at a kind")


def check_use(book, known, part):
    for make in book[3]:
        if make[0] == part[1] and len(make[1]) == len(part[2]):
            return
    raise NoDeed("no make has that name and takes as many")


def check_let(book, known, part):
    check_new_name(known, part[1])


def check_new_name(known, x):
    if not is_name(x) or x in known:
        raise NoName("a let and an again have a name that is not known yet")


def check_pick(book, known, part):
    check_kind(book, part[1])
    check_kind(book, part[2])


def check_again(book, known, part):
    if not (0 <= part[1] <= MOST_ROUNDS):
        raise NoNumber("an again goes round 0 to 9 times")
    check_kind(book, part[2])
    check_new_name(known, part[3])


CHECKS = {
    "name": check_name,
    "number": check_number,
    "use": check_use,
    "let": check_let,
    "pick": check_pick,
    "again": check_again,
}
