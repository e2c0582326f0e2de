"""The desk: books judged and programs answered, from text to text or number."""

from chiefway.errors import NoHead, NoText, Uneven
from chiefway.looks import even, fault
from chiefway.machine import run
from chiefway.prices import cheapest
from chiefway.rows import longest, rows_of
from chiefway.sayings import read_program
from chiefway.shorter import shorter
from chiefway.texts import read_book


def judge(text):
    told = read_book(text)
    found = fault(told)
    if found is None:
        return "even"
    if found[0] == "ways":
        return " ".join(["ways", told[1][found[1]], told[1][found[2]], str(found[5])])
    return " ".join(["makes", found[1]] + [told[1][kind] for kind in found[2]])


def answer(text, saying, name, values):
    told = read_book(text)
    said = read_program(told, saying)
    if name not in told[1]:
        raise NoText("there is no kind of that name")
    if len(values) != len(said[0]):
        raise NoHead("there are not as many values as heads")
    if not even(told):
        raise Uneven("the book is not even")
    return worth_by_rows(told, said, told[1].index(name), values)


def worth_by_rows(told, said, kind, values):
    reading = cheapest(told, said[0], said[1], kind)
    rows = shorter(told[0], rows_of(told, said[0], reading))
    return run(told[0], rows, values, longest(reading))[0]
