"""Prices of readings, and the cheapest ones."""

from chiefway.counting import Atlas, Node, choice_sum, spots, sum_at
from chiefway.errors import NoReading
from chiefway.readings import assembled, choices, inner_readings, way_begins, way_of
from chiefway.ways import way_price


def price(book, reading):
    own = book[3][reading[1]][4] if reading[0] == "use" else 0
    return own + way_price(book, way_of(reading)) + sum([price(book, one) for one in inner_readings(reading)])


def least(book, heads, part):
    atlas = Atlas(book)
    node = Node(part)
    sums = [sum_at(atlas, node, dict(heads), kind) for kind in range(len(book[1]))]
    return [None if total is None else total[1] for total in sums]


def cheapest(book, heads, part, kind):
    return cheapest_at(Atlas(book), Node(part), dict(heads), kind)


def cheapest_at(atlas, node, heads, kind):
    total = sum_at(atlas, node, heads, kind)
    for choice in choices(atlas.book, node.part):
        one = choice_sum(atlas, node, heads, kind, choice)
        if one is not None and one[1] == total[1]:
            return cheapest_choice(atlas, node, heads, kind, choice)
    raise NoReading("the part has no reading at that kind")


def cheapest_choice(atlas, node, heads, kind, choice):
    # What stands in a reading is chosen each by itself: the sum is least, and of those the number,
    # just where both are for each.
    readings = [cheapest_at(atlas, one, known, at) for one, known, at in spots(atlas, node, heads, kind, choice)]
    routes = atlas.routes[(way_begins(atlas.book, heads, node.part, kind, choice), kind)]
    way = min(routes, key=lambda one: way_price(atlas.book, one))
    return assembled(node.part, choice, readings, way)
