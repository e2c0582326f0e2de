"""Books as texts."""

from chiefway.errors import NoText
from chiefway.parsing import book_of_text


def show_book(book):
    rows = ["wheel " + str(book[0])]
    rows.extend(["kind " + name for name in book[1]])
    rows.extend([show_road(book[1], road) for road in book[2]])
    rows.extend([show_make(book[1], make) for make in book[3]])
    return "\n".join(rows)


def show_road(kinds, road):
    return " ".join(["road", kinds[road[0]], kinds[road[1]]] + [str(number) for number in road[2:]])


def show_make(kinds, make):
    takes = [kinds[kind] for kind in make[1]]
    terms = [show_term(exponents, c) for exponents, c in make[3]]
    return " ".join(["make", make[0]] + takes + [">", kinds[make[2]], str(make[4]), ":"] + terms)


def show_term(exponents, c):
    return ",".join([str(exponent) for exponent in exponents]) + "*" + str(c)


def read_book(text):
    told = book_of_text(text)
    if show_book(told) != text:
        raise NoText("the book's text is another one")
    return told
