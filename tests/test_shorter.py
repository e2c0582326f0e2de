"""Rows shortened [33]."""

import random
import unittest

from chiefway.machine import run
from chiefway.rows import longest, rows_of
from chiefway.shorter import shorter
from helper import GREAT, any_aligned_book, any_book, any_given, naive_value, samples

SAME = ("turn", 1, 0)
END = ("take", 0)


class ByHand(unittest.TestCase):
    def check(self, rows, told, M=7):
        kept = list(rows)
        self.assertEqual(shorter(M, rows), told)
        self.assertEqual(rows, kept)
        self.assertEqual(shorter(M, told), told)
        for seed in range(10):
            self.assertEqual(naive_shorter(random.Random(seed), M, rows), told)

    def test_nothing_to_do(self):
        for rows in ([], [("push", 3)], [("turn", 2, 0)], [("take", 0), ("turn", 2, 1)], [("keep", 0), ("turn", 1, 1)],
                     [("turn", 2, 1), ("push", 3)], [("push", 3), ("take", 1), ("turn", 2, 1)],
                     [("reckon", 1, ()), ("turn", 2, 2)], [("count", 0, 3), ("turn", 2, 2)], [("go", 1), ("turn", 0, 1)]):
            self.check(rows, rows)

    def test_a_turn_that_turns_nothing(self):
        self.check([SAME], [])
        self.check([SAME, SAME, SAME], [])
        self.check([SAME, END], [END])
        self.check([END, SAME], [END])
        self.check([END, SAME, END], [END, END])
        self.check([("push", 3), SAME], [("push", 3)])
        self.check([("turn", 2, 0), SAME], [("turn", 2, 0)])
        self.check([SAME, ("turn", 2, 0)], [("turn", 2, 0)])
        self.check([("turn", 1, 1), ("turn", 0, 0)], [("turn", 0, 0)])
        self.check([("turn", 1, 1)], [("turn", 1, 1)])
        self.check([("turn", 0, 0)], [("turn", 0, 0)])

    def test_behind_a_push(self):
        self.check([("push", 3), ("turn", 2, 4)], [("push", 3)])
        self.check([("push", 3), ("turn", 2, 5)], [("push", 4)])
        self.check([("push", 3), ("turn", 2, 5), ("turn", 3, 1), ("turn", 1, 1)], [("push", 0)])
        self.check([("push", 1), ("push", 3), ("turn", 0, 5)], [("push", 1), ("push", 5)])
        self.check([("push", GREAT - 1), ("turn", 2, 0)], [("push", GREAT - 2)], GREAT)

    def test_behind_a_turn(self):
        # 2 x + 1 and then 3 x + 2
        self.check([END, ("turn", 2, 1), ("turn", 3, 2)], [END, ("turn", 6, 5)])
        self.check([END, ("turn", 3, 2), ("turn", 2, 1)], [END, ("turn", 6, 5)])
        self.check([END, ("turn", 3, 2), ("turn", 2, 2)], [END, ("turn", 6, 6)])
        self.check([("turn", 2, 1), ("turn", 3, 2)], [("turn", 6, 5)])
        self.check([END, ("turn", 2, 1), ("take", 0), ("turn", 3, 2)], [END, ("turn", 2, 1), ("take", 0), ("turn", 3, 2)])

    def test_turns_that_together_turn_nothing(self):
        self.check([END, ("turn", 2, 0), ("turn", 4, 0)], [END])
        self.check([("turn", 2, 0), ("turn", 4, 0)], [])
        self.check([END, ("turn", 2, 0), ("turn", 4, 0), ("turn", 3, 3)], [END, ("turn", 3, 3)])
        self.check([("push", 3), ("turn", 2, 0), ("turn", 4, 0)], [("push", 3)])

    def test_with_a_push_or_a_turn_ahead_by_then(self):
        # Row 1 is a goal; it and row 2 turn nothing, so row 3 is the goal then and stays by itself.
        self.check([("push", 3), ("turn", 2, 0), ("turn", 4, 0), ("turn", 5, 5), ("unless", 1)],
                   [("push", 3), ("turn", 5, 5), ("unless", 1)])
        self.check([("turn", 3, 3), ("turn", 2, 0), ("turn", 4, 0), ("turn", 5, 5), ("unless", 1)],
                   [("turn", 3, 3), ("turn", 5, 5), ("unless", 1)])
        self.check([("push", 3), ("turn", 2, 0), ("turn", 4, 0), ("turn", 5, 5), ("unless", 2)],
                   [("push", 6), ("turn", 6, 5), ("unless", 1)])
        # No row leads there: what stands behind comes together with the push.
        self.check([("push", 3), ("turn", 2, 0), ("turn", 4, 0), ("turn", 5, 5), ("unless", 0)],
                   [("push", 6), ("unless", 0)])
        self.check([("go", 2), ("turn", 2, 0), ("turn", 4, 0), ("turn", 5, 5)], [("go", 2), ("turn", 2, 0), ("turn", 6, 5)])

    def test_a_goal_is_not_put_together_with_the_row_ahead(self):
        self.check([("push", 3), ("turn", 2, 5), ("unless", 1)], [("push", 3), ("turn", 2, 5), ("unless", 1)])
        self.check([("push", 3), ("turn", 2, 5), ("turn", 3, 0), ("go", 1)], [("push", 3), ("turn", 6, 1), ("go", 1)])
        self.check([("turn", 2, 1), ("turn", 2, 1), ("round", 0, 1)], [("turn", 2, 1), ("turn", 2, 1), ("round", 0, 1)])
        self.check([("turn", 2, 1), ("turn", 2, 1), ("round", 1, 2)], [("turn", 4, 3), ("round", 1, 1)])

    def test_a_goal_that_is_left_out_leads_to_the_row_behind(self):
        self.check([("push", 3), SAME, ("turn", 2, 5), ("unless", 1)], [("push", 3), ("turn", 2, 5), ("unless", 1)])
        self.check([("push", 3), SAME, ("turn", 2, 5), ("unless", 2)], [("push", 3), ("turn", 2, 5), ("unless", 1)])
        self.check([("push", 3), SAME, SAME, ("turn", 2, 5), ("go", 1)], [("push", 3), ("turn", 2, 5), ("go", 1)])
        self.check([("push", 3), SAME, END, ("go", 1)], [("push", 3), END, ("go", 1)])
        self.check([SAME, ("go", 0)], [("go", 0)])
        self.check([("go", 1), SAME], [("go", 1)])
        self.check([("unless", 2), END, SAME, SAME], [("unless", 2), END])

    def test_goals_to_the_number_of_rows(self):
        self.check([("go", 3), ("push", 1), ("turn", 2, 0)], [("go", 2), ("push", 2)])
        self.check([("unless", 4), SAME, SAME, SAME], [("unless", 1)])
        self.check([("round", 0, 1)], [("round", 0, 1)])

    def test_all_that_lead_move(self):
        rows = [SAME, ("unless", 6), ("push", 1), ("turn", 2, 0), ("round", 3, 9), ("go", 3), ("push", 2), SAME,
                ("go", 1), ("take", 3)]
        told = [("unless", 5), ("push", 1), ("turn", 2, 0), ("round", 3, 7), ("go", 2), ("push", 2),
                ("go", 0), ("take", 3)]
        self.check(rows, told)

    def test_pushes_and_tallies_are_no_goals(self):
        self.check([("push", 2), END, ("push", 1), ("turn", 2, 2)], [("push", 2), END, ("push", 4)])
        self.check([("count", 3, 3), END, ("push", 1), ("turn", 2, 2)], [("count", 3, 3), END, ("push", 4)])
        self.check([("round", 3, 0), END, ("push", 1), ("turn", 2, 2)], [("round", 3, 0), END, ("push", 4)])
        self.check([("take", 3), END, ("push", 1), ("turn", 2, 2)], [("take", 3), END, ("push", 4)])
        self.check([("keep", 3), END, ("push", 1), ("turn", 2, 2)], [("keep", 3), END, ("push", 4)])

    def test_a_new_list(self):
        rows = [("push", 1)]
        told = shorter(7, rows)
        self.assertIsNot(told, rows)
        told.append(SAME)
        self.assertEqual(rows, [("push", 1)])


def naive_shorter(chance, M, rows):
    """The rules of point 33 done one by one, in an order of chance; goals are kept as rows, not numbers."""
    boxes = [[row, None] for row in rows]
    end = [None, None]
    for box in boxes:
        if box[0][0] in ("unless", "go", "round"):
            box[1] = (boxes + [end])[box[0][-1]]
    while True:
        deeds = [place for place in range(len(boxes)) if can_leave_out(boxes, place) or can_join(boxes, place)]
        if not deeds:
            break
        place = chance.choice(deeds)
        joins = can_join(boxes, place) and (not can_leave_out(boxes, place) or chance.randrange(2))
        if joins:
            ahead, row = boxes[place - 1][0], boxes[place][0]
            if ahead[0] == "push":
                boxes[place - 1][0] = ("push", (row[1] * ahead[1] + row[2]) % M)
            else:
                boxes[place - 1][0] = ("turn", row[1] * ahead[1] % M, (row[1] * ahead[2] + row[2]) % M)
        else:
            for box in boxes:
                if box[1] is boxes[place]:
                    box[1] = (boxes + [end])[place + 1]
        boxes.pop(place)
    return [told_row(boxes + [end], box) for box in boxes]


def can_leave_out(boxes, place):
    return boxes[place][0] == SAME


def can_join(boxes, place):
    if place == 0 or boxes[place][0][0] != "turn" or boxes[place - 1][0][0] not in ("push", "turn"):
        return False
    return not any(box[1] is boxes[place] for box in boxes)


def told_row(boxes, box):
    if box[1] is None:
        return box[0]
    return box[0][:-1] + ([other is box[1] for other in boxes].index(True),)


def any_rows(chance, M, most):
    rows = []
    many = chance.randrange(most)
    for row in range(many):
        goal = chance.randrange(many + 1)
        rows.append(chance.choice((
            ("push", chance.randrange(M)), SAME, ("turn", chance.randrange(1, M), 0),
            ("turn", chance.randrange(M), chance.randrange(M)), ("turn", M - 1, chance.randrange(M)), ("take", goal),
            chance.choice((("unless", goal), ("go", goal), ("round", 2, goal), ("count", 2, goal))))))
    return rows


class OfAnyRows(unittest.TestCase):
    def test_in_whatever_order(self):
        chance = random.Random(101)
        for time in range(2500):
            M = chance.choice((3, 3, 5, 9))
            rows = any_rows(chance, M, chance.choice((4, 8, 14)))
            kept = list(rows)
            told = shorter(M, rows)
            self.assertEqual(rows, kept)
            for order in range(2):
                self.assertEqual(told, naive_shorter(chance, M, rows), rows)
            self.assertEqual(shorter(M, told), told)

    def test_two_thousand_rows(self):
        # Three of these turns together turn nothing.
        rows = [("turn", 2, 1)] * 1999 + [("go", 1001)]
        self.assertEqual(shorter(7, rows), [("turn", 4, 3), ("turn", 4, 3), ("go", 1)])
        rows = [("turn", 2, 1)] * 1999 + [("go", 1000)]
        self.assertEqual(shorter(7, rows), [("turn", 2, 1), ("go", 1)])


class OfReadings(unittest.TestCase):
    def test_the_same_number_in_no_more_steps(self):
        chance = random.Random(102)
        seen = {"shorter": 0, "as long": 0}
        for make_book, seed in ((any_book, 103), (any_aligned_book, 104)):
            for told, heads, part, readings in samples(seed, (3, 9, GREAT), 90, make_book, 14, 300):
                for there in readings:
                    for reading in chance.sample(there, min(3, len(there))):
                        given = any_given(chance, told, heads)
                        values = [given[x] for x, k in heads]
                        rows = rows_of(told, heads, reading)
                        short = shorter(told[0], rows)
                        number, steps = run(told[0], rows, values, longest(reading))
                        other, fewer = run(told[0], short, values, steps)
                        self.assertEqual((number, other), (naive_value(told, reading, given),) * 2)
                        seen["shorter" if fewer < steps else "as long"] += 1
        self.assertGreater(min(seen.values()), 100, seen)


if __name__ == "__main__":
    unittest.main()
