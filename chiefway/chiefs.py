"""Chief readings of programs in even books, and what lacks where there is none."""

from chiefway.errors import NoReading
from chiefway.looks import chief_make
from chiefway.programs import inner
from chiefway.readings import assembled, inner_heads, inner_kinds, way_begins
from chiefway.ways import first_way, leads


def carried(book, reading, j, k):
    last = len(reading) - 1
    if reading[0] == "let":
        return reading[:last] + (carried(book, reading[last], j, k),)
    return reading[:last] + (reading[last] + first_way(book, j, k),)


def chief(book, heads, part):
    found = search(book, dict(heads), part, ())
    if found[2] is not None:
        raise NoReading("the part has no chief reading")
    return found[:2]


def lack(book, heads, part):
    return search(book, dict(heads), part, ())[2]


def search(book, heads, part, place):
    """A tuple of the chief kind, the chief reading and None; or of None, None and the lack."""
    kinds = ()
    readings = []
    for number, one in enumerate(inner(part)):
        # Looked at from left to right: by a let's two the chief kind of its one is found.
        known = inner_heads(heads, part, number, kinds[0] if number > 0 else None)
        found = search(book, known, one, place + (number,))
        if found[2] is not None:
            return found
        kinds = kinds + (found[0],)
        readings.append(found[1])
    choice = chief_choice(book, part, kinds)
    if not has_chief(book, part, kinds, choice):
        return (None, None, (place, kinds))
    return chief_of_chiefs(book, heads, part, kinds, readings, choice)


def chief_choice(book, part, kinds):
    if part[0] == "use":
        return chief_make(book, part[1], kinds)
    if part[0] == "let":
        return kinds[0]
    return None


def has_chief(book, part, kinds, choice):
    """Whether the part has a chief reading, what stands right in it having theirs at the kinds."""
    # A let's are read where they are; a chief make fits the kinds of its args.
    if part[0] == "let":
        return True
    if part[0] == "use":
        return choice is not None
    return all([leads(book, j, k) for j, k in zip(kinds, inner_kinds(book, part, None, choice))])


def chief_of_chiefs(book, heads, part, kinds, readings, choice):
    kind = kinds[1] if part[0] == "let" else way_begins(book, heads, part, None, choice)
    brought = []
    for one, j, k in zip(readings, kinds, inner_kinds(book, part, kind, choice)):
        brought.append(carried(book, one, j, k))
    return (kind, assembled(part, choice, brought, ()), None)
