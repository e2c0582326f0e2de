"""Readings: what is one, and what it is worth.

A reading of a part is told by a choice (a use's make, a let's kind, else None), by readings of
what stands right in the part, and by a way; the functions at the top tell which there may be.
"""

from chiefway.forms import worth_at
from chiefway.programs import inner, name_within
from chiefway.ways import is_way
from chiefway.wheels import turned


def choices(book, part):
    """What may be chosen for the part, rising; None alone, where there is nothing to choose."""
    if part[0] == "use":
        return [v for v, make in enumerate(book[3]) if make[0] == part[1] and len(make[1]) == len(part[2])]
    if part[0] == "let":
        return list(range(len(book[1])))
    return [None]


def inner_kinds(book, part, kind, choice):
    """The kinds at which what stands right in the part is read, where it is itself read at the kind."""
    if part[0] == "use":
        return book[3][choice][1]
    if part[0] == "let":
        return (choice, kind)
    if part[0] == "pick":
        return (part[1], part[2], part[2])
    if part[0] == "again":
        return (part[2], part[2])
    return ()


def inner_heads(heads, part, number, choice):
    """The heads (a dict), and the name that becomes known in what stands under the number, with its kind."""
    x = name_within(part, number)
    if x is None:
        return heads
    more = dict(heads)
    more[x] = choice if part[0] == "let" else part[2]
    return more


def way_begins(book, heads, part, kind, choice):
    """The kind from which the way of a reading of the part leads to the kind."""
    if part[0] == "name":
        return heads[part[1]]
    if part[0] == "use":
        return book[3][choice][2]
    if part[0] == "let":
        # A let has no way of its own: as if it had the one from the kind to itself.
        return kind
    return part[2]


def choice_of(reading):
    if reading[0] == "use":
        return reading[1]
    if reading[0] == "let":
        return reading[2]
    return None


def inner_readings(reading):
    if reading[0] == "use":
        return reading[2]
    if reading[0] == "let":
        return reading[3:5]
    if reading[0] == "pick":
        return reading[3:6]
    if reading[0] == "again":
        return reading[4:6]
    return ()


def way_of(reading):
    return () if reading[0] == "let" else reading[len(reading) - 1]


def assembled(part, choice, readings, way):
    """The reading of the part that is told by these."""
    if part[0] == "use":
        return ("use", choice, tuple(readings), way)
    if part[0] == "let":
        return ("let", part[1], choice) + tuple(readings)
    # The others begin as their parts do, up to what stands in these.
    return part[:len(part) - len(inner(part))] + tuple(readings) + (way,)


def is_reading(book, heads, part, kind, reading):
    return reads(book, dict(heads), part, kind, reading)


def reads(book, heads, part, kind, reading):
    choice = choice_of(reading)
    readings = inner_readings(reading)
    if part[0] != reading[0] or choice not in choices(book, part) or len(readings) != len(inner(part)):
        return False
    # What the part itself tells (a name, a number, kinds) stands in the reading as it is.
    if assembled(part, choice, readings, way_of(reading)) != reading:
        return False
    if not is_way(book, way_begins(book, heads, part, kind, choice), kind, way_of(reading)):
        return False
    kinds = inner_kinds(book, part, kind, choice)
    for number, one in enumerate(inner(part)):
        if not reads(book, inner_heads(heads, part, number, choice), one, kinds[number], readings[number]):
            return False
    return True


def worth(book, reading, given):
    x = WORTHS[reading[0]](book, reading, given)
    for number in way_of(reading):
        x = turned(book[0], book[2][number][2:4], x)
    return x


def name_worth(book, reading, given):
    return given[reading[1]]


def number_worth(book, reading, given):
    return reading[1]


def use_worth(book, reading, given):
    values = [worth(book, one, given) for one in reading[2]]
    return worth_at(book[0], book[3][reading[1]][3], values)


def let_worth(book, reading, given):
    return worth(book, reading[4], with_worth(given, reading[1], worth(book, reading[3], given)))


def with_worth(given, x, number):
    more = dict(given)
    more[x] = number
    return more


def pick_worth(book, reading, given):
    if worth(book, reading[3], given) != 0:
        return worth(book, reading[4], given)
    return worth(book, reading[5], given)


def again_worth(book, reading, given):
    last = worth(book, reading[4], given)
    for lap in range(reading[1]):
        last = worth(book, reading[5], with_worth(given, reading[3], last))
    return last


WORTHS = {
    "name": name_worth,
    "number": number_worth,
    "use": use_worth,
    "let": let_worth,
    "pick": pick_worth,
    "again": again_worth,
}
