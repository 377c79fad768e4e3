"""Tables: whom the men of each class marry, and of which class their children are."""

from kinturns.errors import NoClass, NoTable

MOST_CLASSES = 8


def is_turn(row, many):
    return sorted(row) == list(range(many))


def turned_back(turn):
    return [turn.index(c) for c in range(len(turn))]


class Table:

    def __init__(self, wives, heirs):
        many = len(wives)
        if many < 1 or many > MOST_CLASSES:
            raise NoTable(f"not 1 to {MOST_CLASSES} classes: {many}")
        # Both are held against one length, so lists of unlike lengths are refused here too.
        if not is_turn(wives, many) or not is_turn(heirs, many):
            raise NoTable(f"not two turns of {many} classes: {wives!r}, {heirs!r}")
        # Copies: whoever handed the lists in may change them later.
        self.wife_turn = list(wives)
        self.heir_turn = list(heirs)
        self.husband_turn = turned_back(wives)
        self.father_turn = turned_back(heirs)

    def size(self):
        return len(self.wife_turn)

    def check_class(self, c):
        # Python would take a negative number as a place from a list's end.
        if c < 0 or c >= len(self.wife_turn):
            raise NoClass(f"no class of this table: {c}")

    def wife_of(self, c):
        self.check_class(c)
        return self.wife_turn[c]

    def husband_of(self, c):
        self.check_class(c)
        return self.husband_turn[c]

    def heir_of(self, c):
        self.check_class(c)
        return self.heir_turn[c]

    def father_of(self, c):
        self.check_class(c)
        return self.father_turn[c]

    def wives(self):
        return list(self.wife_turn)

    def heirs(self):
        return list(self.heir_turn)
