"""Notes: tables written as texts, and read from them."""

from kinturns.errors import BadNote, NoTable
from kinturns.tables import Table

FIGURES = "0123456789"


def line_of(name, numbers):
    return " ".join([name] + [str(number) for number in numbers]) + "\n"


def shown(table):
    return line_of("classes", [table.size()]) + line_of("wives", table.wives()) + line_of("heirs", table.heirs())


def number_of(word):
    # The empty text, too, would be found in the figures.
    if len(word) != 1 or word not in FIGURES:
        raise BadNote(f"no number of one figure: {word!r}")
    return int(word)


def numbers_behind(name, line):
    # Split by the blank itself: two blanks leave an empty word, which is no number.
    words = line.split(" ")
    if words[0] != name:
        raise BadNote(f"no line of {name}: {line!r}")
    return [number_of(word) for word in words[1:]]


def read(text):
    lines = text.split("\n")
    # Behind the last line end an empty text is left.
    if len(lines) != 4 or lines[3] != "":
        raise BadNote(f"not three lines with a line end each: {text!r}")
    many = numbers_behind("classes", lines[0])
    wives = numbers_behind("wives", lines[1])
    heirs = numbers_behind("heirs", lines[2])
    if many != [len(wives)]:
        raise BadNote(f"not as many classes as wives: {text!r}")
    try:
        return Table(wives, heirs)
    except NoTable as e:
        raise BadNote(f"the lists make no table: {text!r}") from e
