"""Readings made into rows for the machine, and how many steps these take at most."""

from chiefway.readings import inner_readings, way_of


def rows_of(book, heads, reading):
    places = {}
    for x, k in heads:
        places[x] = len(places)
    return rows_at(book, places, 0, reading, 0)


def rows_at(book, places, tally, reading, start):
    """The rows of the reading where its first row has the number start.

    places are those of the names that are known there; tally is the one that an again there has.
    """
    rows = ROWS[reading[0]](book, places, tally, reading, start)
    return rows + [("turn", book[2][number][2], book[2][number][3]) for number in way_of(reading)]


def name_rows(book, places, tally, reading, start):
    return [("take", places[reading[1]])]


def number_rows(book, places, tally, reading, start):
    return [("push", reading[1])]


def use_rows(book, places, tally, reading, start):
    rows = []
    for one in reading[2]:
        rows.extend(rows_at(book, places, tally, one, start + len(rows)))
    return rows + [("reckon", len(reading[2]), book[3][reading[1]][3])]


def with_place(places, x):
    more = dict(places)
    more[x] = len(places)
    return more


def let_rows(book, places, tally, reading, start):
    r = rows_at(book, places, tally, reading[3], start)
    keep = ("keep", len(places))
    s = rows_at(book, with_place(places, reading[1]), tally, reading[4], start + len(r) + 1)
    return r + [keep] + s


def pick_rows(book, places, tally, reading, start):
    q = rows_at(book, places, tally, reading[3], start)
    r = rows_at(book, places, tally, reading[4], start + len(q) + 1)
    second = start + len(q) + 1 + len(r) + 1
    s = rows_at(book, places, tally, reading[5], second)
    return q + [("unless", second)] + r + [("go", second + len(s))] + s


def again_rows(book, places, tally, reading, start):
    place = len(places)
    r = rows_at(book, places, tally, reading[4], start)
    turning = start + len(r) + 2
    s = rows_at(book, with_place(places, reading[3]), tally + 1, reading[5], turning + 1)
    behind = turning + 1 + len(s) + 2
    ahead = r + [("keep", place), ("count", tally, reading[1]), ("round", tally, behind)]
    return ahead + s + [("keep", place), ("go", turning), ("take", place)]


ROWS = {
    "name": name_rows,
    "number": number_rows,
    "use": use_rows,
    "let": let_rows,
    "pick": pick_rows,
    "again": again_rows,
}


def longest(reading):
    inside = [longest(one) for one in inner_readings(reading)]
    return STEPS[reading[0]](reading, inside) + len(way_of(reading))


def one_step(reading, inside):
    return 1


def use_steps(reading, inside):
    return sum(inside) + 1


def pick_steps(reading, inside):
    # The unless; and the go behind the first side.
    return inside[0] + 1 + max(inside[1] + 1, inside[2])


def again_steps(reading, inside):
    # The keep, the count, the last round and the take; each time round the round, the keep and the go.
    return inside[0] + 4 + reading[1] * (inside[1] + 3)


STEPS = {
    "name": one_step,
    "number": one_step,
    "use": use_steps,
    "let": use_steps,
    "pick": pick_steps,
    "again": again_steps,
}
