"""Ways from kind to kind: which there are, how they turn, what they cost."""

from chiefway.wheels import then


def ways(book, j, k):
    if j == k:
        return [()]
    told = []
    # Roads lead on to later kinds alone, so no way is the beginning of another one from j to k:
    # walked by the roads' numbers, they come as tuples are sorted.
    for number, road in enumerate(book[2]):
        if road[0] == j and road[1] <= k:
            told.extend([(number,) + way for way in ways(book, road[1], k)])
    return told


def is_way(book, j, k, way):
    at = j
    for number in way:
        if not (0 <= number < len(book[2])) or book[2][number][0] != at:
            return False
        at = book[2][number][1]
    return at == k


def leads(book, j, k):
    return first_way(book, j, k) is not None


def first_way(book, j, k):
    # Found backwards, from each kind ahead of k: so no dead end is walked twice.
    firsts = {k: ()}
    for kind in range(k - 1, j - 1, -1):
        for number, road in enumerate(book[2]):
            if road[0] == kind and road[1] in firsts and kind not in firsts:
                firsts[kind] = (number,) + firsts[road[1]]
    return firsts.get(j)


def turn_of(book, way):
    turn = (1, 0)
    for number in way:
        turn = then(book[0], turn, book[2][number][2:4])
    return turn


def way_price(book, way):
    return sum([book[2][number][4] for number in way])
