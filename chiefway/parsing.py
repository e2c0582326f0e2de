"""Texts read into books and programs.

Not each fault of a text is looked for here: whoever asks shows what was read once more, and
refuses the text where it is another one.
"""

from chiefway.books import book
from chiefway.errors import ChiefError, NoText
from chiefway.programs import MOST_DEPTH, program

FIGURES = "0123456789"
LETTERS = "abcdefghijklmnopqrstuvwxyz"
# No number of a book or program has more figures than the greatest wheel.
MOST_FIGURES = 60


def number_of_word(word):
    # Python refuses to read very long numbers, so they are refused ahead of it.
    if len(word) < 1 or len(word) > MOST_FIGURES or not all([sign in FIGURES for sign in word]):
        raise NoText("a number is written by figures")
    return int(word)


def kind_of_word(kinds, word):
    if word not in kinds:
        raise NoText("there is no kind of that name")
    return kinds.index(word)


def book_of_text(text):
    rows = [row.split(" ") for row in text.split("\n")]
    M = wheel_of_row(rows[0])
    kinds = [kind_of_row(row) for row in rows if row[0] == "kind"]
    roads = [road_of_row(kinds, row) for row in rows if row[0] == "road"]
    makes = [make_of_row(kinds, row) for row in rows if row[0] == "make"]
    try:
        return book(M, kinds, roads, makes)
    except ChiefError as e:
        raise NoText("the text tells no book") from e


def wheel_of_row(row):
    if len(row) != 2 or row[0] != "wheel":
        raise NoText("a book's text begins with its wheel")
    return number_of_word(row[1])


def kind_of_row(row):
    if len(row) != 2:
        raise NoText("a kind's row has its name alone")
    return row[1]


def road_of_row(kinds, row):
    if len(row) != 6:
        raise NoText("a road's row has five words")
    ends = [kind_of_word(kinds, word) for word in row[1:3]]
    return tuple(ends + [number_of_word(word) for word in row[3:6]])


def make_of_row(kinds, row):
    if ">" not in row:
        raise NoText("a make's row tells what it gives")
    at = row.index(">")
    if len(row) < at + 4 or row[at + 3] != ":":
        raise NoText("a make's row has a colon ahead of its terms")
    takes = tuple([kind_of_word(kinds, word) for word in row[2:at]])
    gives = kind_of_word(kinds, row[at + 1])
    terms = [term_of_word(word) for word in row[at + 4:]]
    return (row[1], takes, gives, terms, number_of_word(row[at + 2]))


def term_of_word(word):
    parts = word.split("*")
    if len(parts) != 2:
        raise NoText("a term has exponents and a number")
    return (tuple([number_of_word(exponent) for exponent in parts[0].split(",")]), number_of_word(parts[1]))


def program_of_text(known_book, text):
    rows = text.split("\n")
    if len(rows) != 2:
        raise NoText("a program's text has two rows")
    heads = heads_of_row(known_book[1], rows[0])
    body = body_of_row(known_book[1], rows[1])
    try:
        return program(known_book, heads, body)
    except ChiefError as e:
        raise NoText("the text tells no program") from e


def heads_of_row(kinds, row):
    words = row.split(" ")
    if words[0] != "in" or len(words) % 2 == 0:
        raise NoText("the first row tells the heads")
    return [(words[place], kind_of_word(kinds, words[place + 1])) for place in range(1, len(words), 2)]


class Reader:
    # A body's row, and how far it is read.
    def __init__(self, kinds, text):
        self.kinds = kinds
        self.text = text
        self.at = 0


def body_of_row(kinds, row):
    reader = Reader(kinds, row)
    body = read_part(reader, 1)
    if reader.at != len(row):
        raise NoText("something stands behind the body")
    return body


def sees(reader, signs):
    return reader.text.startswith(signs, reader.at)


def skip(reader, signs):
    if not sees(reader, signs):
        raise NoText("the text goes on otherwise than a program's")
    reader.at = reader.at + len(signs)


def read_word(reader, signs):
    """As much as there is of these signs, perhaps nothing."""
    start = reader.at
    while reader.at < len(reader.text) and reader.text[reader.at] in signs:
        reader.at = reader.at + 1
    return reader.text[start:reader.at]


def read_kind(reader):
    return kind_of_word(reader.kinds, read_word(reader, LETTERS))


def read_number(reader):
    return number_of_word(read_word(reader, FIGURES))


def read_part(reader, depth):
    # A part that is too deep is refused anyhow, and here ahead of calls that are too deep.
    if depth > MOST_DEPTH:
        raise NoText("the body is too deep")
    word = read_word(reader, LETTERS)
    if word in PHRASES:
        return PHRASES[word](reader, depth)
    if word == "":
        n = read_number(reader)
        skip(reader, ":")
        return ("number", n, read_kind(reader))
    if sees(reader, "("):
        return ("use", word, read_bracket(reader, depth))
    return ("name", word)


def read_bracket(reader, depth):
    skip(reader, "(")
    parts = [read_part(reader, depth + 1)]
    while sees(reader, " "):
        skip(reader, " ")
        parts.append(read_part(reader, depth + 1))
    skip(reader, ")")
    return tuple(parts)


def read_many(reader, depth, many):
    skip(reader, " ")
    parts = read_bracket(reader, depth)
    if len(parts) != many:
        raise NoText("a pick has three parts, an again two")
    return parts


def read_let(reader, depth):
    skip(reader, " ")
    x = read_word(reader, LETTERS)
    skip(reader, " = ")
    one = read_part(reader, depth + 1)
    skip(reader, " in ")
    return ("let", x, one, read_part(reader, depth + 1))


def read_pick(reader, depth):
    skip(reader, " ")
    c = read_kind(reader)
    skip(reader, " ")
    k = read_kind(reader)
    return ("pick", c, k) + read_many(reader, depth, 3)


def read_again(reader, depth):
    skip(reader, " ")
    n = read_number(reader)
    skip(reader, " ")
    k = read_kind(reader)
    skip(reader, " ")
    x = read_word(reader, LETTERS)
    return ("again", n, k, x) + read_many(reader, depth, 2)


PHRASES = {
    "let": read_let,
    "pick": read_pick,
    "again": read_again,
}
