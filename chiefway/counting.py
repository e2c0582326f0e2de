"""Readings counted, and told by their numbers.

How many readings there are and what the cheapest one costs is found the same way, part by part;
so both are found at once, as a sum: a tuple (number, price), or None where there is no reading.
"""

from chiefway.errors import NoReading
from chiefway.programs import inner, name_within
from chiefway.readings import (
    assembled, choice_of, choices, inner_heads, inner_kinds, inner_readings, way_begins, way_of)
from chiefway.ways import way_price, ways


class Node:
    # A part, the nodes of what stands right in it, and the sums that were found for it:
    # kept, as the same sum is asked for over and over.
    def __init__(self, part):
        self.part = part
        self.below = [Node(one) for one in inner(part)]
        self.names = names_used(part, self.below)
        self.found = {}


def names_used(part, below):
    """The names that the part takes from around it; its sums hang on their kinds alone."""
    if part[0] == "name":
        return [part[1]]
    names = []
    for number, node in enumerate(below):
        hidden = name_within(part, number)
        names.extend([x for x in node.names if x != hidden and x not in names])
    return names


class Atlas:
    # All ways of a book and their sums, by the kinds from which and to which they lead: so they are found once.
    def __init__(self, book):
        self.book = book
        self.routes = {}
        self.spans = {}
        for j in range(len(book[1])):
            for k in range(len(book[1])):
                self.routes[(j, k)] = ways(book, j, k)
                self.spans[(j, k)] = ways_sum(book, self.routes[(j, k)])


def ways_sum(book, routes):
    prices = [way_price(book, way) for way in routes]
    return (len(prices), min(prices)) if len(prices) > 0 else None


def both(one, other):
    """The sum of all pairs of one that is counted in the first with one of the second."""
    if one is None or other is None:
        return None
    return (one[0] * other[0], one[1] + other[1])


def either(one, other):
    if one is None or other is None:
        return other if one is None else one
    return (one[0] + other[0], min(one[1], other[1]))


def sum_at(atlas, node, heads, kind):
    """The sum of all readings of the node's part at the kind."""
    key = (kind, tuple([heads[x] for x in node.names]))
    if key not in node.found:
        total = None
        for choice in choices(atlas.book, node.part):
            total = either(total, choice_sum(atlas, node, heads, kind, choice))
        node.found[key] = total
    return node.found[key]


def choice_sum(atlas, node, heads, kind, choice):
    own_price = atlas.book[3][choice][4] if node.part[0] == "use" else 0
    total = both((1, own_price), atlas.spans[(way_begins(atlas.book, heads, node.part, kind, choice), kind)])
    for one, known, at in spots(atlas, node, heads, kind, choice):
        # Nothing further in is looked at where there is no reading anyhow.
        if total is not None:
            total = both(total, sum_at(atlas, one, known, at))
    return total


def spots(atlas, node, heads, kind, choice):
    """Each node below with the heads and the kind with which it is read."""
    kinds = inner_kinds(atlas.book, node.part, kind, choice)
    places = []
    for number, one in enumerate(node.below):
        places.append((one, inner_heads(heads, node.part, number, choice), kinds[number]))
    return places


def number_in(total):
    return 0 if total is None else total[0]


def counts(book, heads, part):
    atlas = Atlas(book)
    node = Node(part)
    return [number_in(sum_at(atlas, node, dict(heads), kind)) for kind in range(len(book[1]))]


def told(book, heads, part, kind, n):
    if n < 0:
        raise NoReading("no reading has a number below 0")
    return told_at(Atlas(book), Node(part), dict(heads), kind, n)


def told_at(atlas, node, heads, kind, n):
    rest = n
    for choice in choices(atlas.book, node.part):
        many = number_in(choice_sum(atlas, node, heads, kind, choice))
        if rest < many:
            return told_choice(atlas, node, heads, kind, choice, rest)
        rest = rest - many
    raise NoReading("no reading has that number")


def told_choice(atlas, node, heads, kind, choice, n):
    places = spots(atlas, node, heads, kind, choice)
    routes = atlas.routes[(way_begins(atlas.book, heads, node.part, kind, choice), kind)]
    numbers = parted(n, sizes(atlas, places, routes))
    readings = []
    for number, spot in zip(numbers, places):
        readings.append(told_at(atlas, spot[0], spot[1], spot[2], number))
    return assembled(node.part, choice, readings, routes[numbers[len(places)]])


def sizes(atlas, places, routes):
    """How many there are to be told apart at each place, the ways last."""
    return [number_in(sum_at(atlas, one, known, at)) for one, known, at in places] + [len(routes)]


def parted(n, many):
    """The number in each place, the first place counting most, that together come to n."""
    numbers = []
    rest = n
    for size in reversed(many):
        numbers.insert(0, rest % size)
        rest = rest // size
    return numbers


def joined(numbers, many):
    n = 0
    for number, size in zip(numbers, many):
        n = n * size + number
    return n


def number_of(book, heads, part, kind, reading):
    return number_at(Atlas(book), Node(part), dict(heads), kind, reading)


def number_at(atlas, node, heads, kind, reading):
    chosen = choice_of(reading)
    n = 0
    for choice in choices(atlas.book, node.part):
        if choice is not None and choice < chosen:
            n = n + number_in(choice_sum(atlas, node, heads, kind, choice))
    places = spots(atlas, node, heads, kind, chosen)
    routes = atlas.routes[(way_begins(atlas.book, heads, node.part, kind, chosen), kind)]
    numbers = []
    for one, spot in zip(inner_readings(reading), places):
        numbers.append(number_at(atlas, spot[0], spot[1], spot[2], one))
    numbers.append(routes.index(way_of(reading)))
    return n + joined(numbers, sizes(atlas, places, routes))
