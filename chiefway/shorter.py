"""Rows shortened: a turn that turns nothing is left out, others are put together with the row ahead."""

from chiefway.wheels import then, turned


def shorter(M, rows):
    goals = goals_of(rows)
    kept = []
    moved = []
    # Whether something leads to where the next row that is kept will stand.
    led = False
    for number, row in enumerate(rows):
        led = led or number in goals
        moved.append(len(kept))
        left = row
        if row[0] == "turn" and not led and len(kept) > 0 and kept[len(kept) - 1][0][0] in ("push", "turn"):
            ahead = kept.pop()
            left = put_together(M, ahead[0], row)
            led = ahead[1]
        if left != ("turn", 1, 0):
            kept.append((left, led))
            led = False
    moved.append(len(kept))
    return [moved_row(moved, row) for row, was_led in kept]


def goals_of(rows):
    goals = {}
    for row in rows:
        if row[0] in ("unless", "go", "round"):
            goals[row[len(row) - 1]] = True
    return goals


def put_together(M, ahead, turn):
    if ahead[0] == "push":
        return ("push", turned(M, turn[1:], ahead[1]))
    return ("turn",) + then(M, ahead[1:], turn[1:])


def moved_row(moved, row):
    if row[0] in ("unless", "go", "round"):
        last = len(row) - 1
        return row[:last] + (moved[row[last]],)
    return row
