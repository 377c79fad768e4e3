"""Walks of kin over a table: where they lead, which are alike, and what hangs together."""

from kinturns.errors import NoWalk, TooMany

LETTERS = "fmsdpbz"
LETTERS_TO_MEN = "fsb"
MOST_LETTERS = 60
MOST_CLASSES_FOR_SHORTEST = 4


def check_walk(walk):
    if len(walk) > MOST_LETTERS:
        raise NoWalk(f"more than {MOST_LETTERS} signs: {walk!r}")
    for sign in walk:
        if sign not in LETTERS:
            raise NoWalk(f"no letter of a walk: {sign!r}")


def partner_sex(sex):
    return "woman" if sex == "man" else "man"


def sex_after(sex, letter):
    if letter == "p":
        return partner_sex(sex)
    return "man" if letter in LETTERS_TO_MEN else "woman"


def partner_class(table, sex, c):
    return table.wife_of(c) if sex == "man" else table.husband_of(c)


def child_class(table, sex, c):
    # The table tells of men's children alone; a woman's are those of the men who marry her.
    return table.heir_of(c if sex == "man" else table.husband_of(c))


def class_after(table, sex, c, letter):
    if letter == "f":
        return table.father_of(c)
    if letter == "m":
        return table.wife_of(table.father_of(c))
    if letter == "p":
        return partner_class(table, sex, c)
    if letter == "s" or letter == "d":
        return child_class(table, sex, c)
    return c


def end_sex(sex, walk):
    check_walk(walk)
    here = sex
    for letter in walk:
        here = sex_after(here, letter)
    return here


def walked(table, sex, c, walk):
    check_walk(walk)
    # Asked ahead of the steps: a walk of no letters, or of b and z alone, asks the table nothing.
    table.check_class(c)
    here_sex = sex
    here = c
    for letter in walk:
        here = class_after(table, here_sex, here, letter)
        here_sex = sex_after(here_sex, letter)
    return (here_sex, here)


def turn_of(table, sex, walk):
    return [walked(table, sex, c, walk)[1] for c in range(table.size())]


def parted(table, sex, one, other):
    if end_sex(sex, one) != end_sex(sex, other):
        return -1
    for c in range(table.size()):
        if walked(table, sex, c, one) != walked(table, sex, c, other):
            return c
    return None


def part_with(table, c):
    # Each turn comes round to where it began, so steps forward alone reach all
    # that steps back would reach.
    reached = {c: True}
    waiting = [c]
    while len(waiting) > 0:
        here = waiting.pop()
        for there in (table.wife_of(here), table.heir_of(here)):
            if there not in reached:
                reached[there] = True
                waiting.append(there)
    return sorted(reached)


def parts(table):
    told = {}
    answer = []
    for c in range(table.size()):
        if c not in told:
            part = part_with(table, c)
            for member in part:
                told[member] = True
            answer.append(part)
    return answer


# An end is a tuple of the sex to which a walk leads and its turn, as a tuple:
# walks with the same end are alike.
def end_after(table, end, letter):
    turn = tuple([class_after(table, end[0], c, letter) for c in end[1]])
    return (sex_after(end[0], letter), turn)


def longer_by_one(table, ends, found):
    later = []
    for end in ends:
        for letter in LETTERS:
            there = end_after(table, end, letter)
            if there not in found:
                found[there] = found[end] + letter
                later.append(there)
    return later


def shortest(table, sex, walk):
    check_walk(walk)
    if table.size() > MOST_CLASSES_FOR_SHORTEST:
        raise TooMany(f"more than {MOST_CLASSES_FOR_SHORTEST} classes")
    wanted = (end_sex(sex, walk), tuple(turn_of(table, sex, walk)))
    start = (sex, tuple(range(table.size())))
    found = {start: ""}
    ends = [start]
    # The walk itself leads to the wanted end, so the search comes to it.
    while wanted not in found:
        ends = longer_by_one(table, ends, found)
    return found[wanted]
