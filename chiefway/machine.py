"""The machine that runs rows and knows no kinds."""

from chiefway.errors import OutOfSteps
from chiefway.forms import worth_at
from chiefway.wheels import turned


class Machine:
    # Its lists are changed as it runs: they are its own, made for it alone.
    def __init__(self, M, rows, state):
        self.wheel = M
        self.rows = rows
        self.at = state[0]
        self.pile = list(state[1])
        self.shelf = list(state[2])
        self.tallies = list(state[3])


def begun(rows, values):
    shelf = list(values)
    places = 1 + greatest(rows, ("take", "keep"))
    tallies = 1 + greatest(rows, ("count", "round"))
    return (0, [], shelf + [0] * (places - len(shelf)), [0] * tallies)


def greatest(rows, words):
    """The greatest number that stands right behind one of the words in the rows; -1 where there is none."""
    return max([row[1] for row in rows if row[0] in words], default=-1)


def step(M, rows, state):
    machine = Machine(M, rows, state)
    do_row(machine)
    return (machine.at, machine.pile, machine.shelf, machine.tallies)


def run(M, rows, values, most):
    machine = Machine(M, rows, begun(rows, values))
    steps = 0
    while machine.at < len(rows):
        if steps >= most:
            raise OutOfSteps("the machine is not at rest yet")
        do_row(machine)
        steps = steps + 1
    # With an empty pile there is no number to tell.
    return (machine.pile.pop() if len(machine.pile) > 0 else None, steps)


def do_row(machine):
    row = machine.rows[machine.at]
    machine.at = machine.at + 1
    DEEDS[row[0]](machine, row)


def do_push(machine, row):
    machine.pile.append(row[1])


def do_take(machine, row):
    machine.pile.append(machine.shelf[row[1]])


def do_keep(machine, row):
    machine.shelf[row[1]] = machine.pile.pop()


def do_turn(machine, row):
    machine.pile.append(turned(machine.wheel, row[1:3], machine.pile.pop()))


def do_reckon(machine, row):
    values = [machine.pile.pop() for lap in range(row[1])]
    values.reverse()
    machine.pile.append(worth_at(machine.wheel, row[2], values))


def do_unless(machine, row):
    if machine.pile.pop() == 0:
        machine.at = row[1]


def do_go(machine, row):
    machine.at = row[1]


def do_count(machine, row):
    machine.tallies[row[1]] = row[2]


def do_round(machine, row):
    if machine.tallies[row[1]] > 0:
        machine.tallies[row[1]] = machine.tallies[row[1]] - 1
    else:
        machine.at = row[2]


DEEDS = {
    "push": do_push,
    "take": do_take,
    "keep": do_keep,
    "turn": do_turn,
    "reckon": do_reckon,
    "unless": do_unless,
    "go": do_go,
    "count": do_count,
    "round": do_round,
}
