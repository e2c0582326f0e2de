"""Programs as texts."""

from chiefway.errors import NoText
from chiefway.parsing import program_of_text


def show_program(book, program):
    words = ["in"]
    for x, k in program[0]:
        words.extend([x, book[1][k]])
    return " ".join(words) + "\n" + show_part(book[1], program[1])


def show_part(kinds, part):
    return SHOWN[part[0]](kinds, part)


def show_parts(kinds, parts):
    return "(" + " ".join([show_part(kinds, part) for part in parts]) + ")"


def show_name(kinds, part):
    return part[1]


def show_number(kinds, part):
    return str(part[1]) + ":" + kinds[part[2]]


def show_use(kinds, part):
    return part[1] + show_parts(kinds, part[2])


def show_let(kinds, part):
    return "let " + part[1] + " = " + show_part(kinds, part[2]) + " in " + show_part(kinds, part[3])


def show_pick(kinds, part):
    return " ".join(["pick", kinds[part[1]], kinds[part[2]], show_parts(kinds, part[3:])])


def show_again(kinds, part):
    return " ".join(["again", str(part[1]), kinds[part[2]], part[3], show_parts(kinds, part[4:])])


SHOWN = {
    "name": show_name,
    "number": show_number,
    "use": show_use,
    "let": show_let,
    "pick": show_pick,
    "again": show_again,
}


def read_program(book, text):
    told = program_of_text(book, text)
    if show_program(book, told) != text:
        raise NoText("the program's text is another one")
    return told
