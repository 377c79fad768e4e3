import itertools
import unittest

from kinturns.errors import BadNote
from kinturns.notes import read, shown
from kinturns.tables import Table

RING = "classes 3\nwives 1 2 0\nheirs 0 1 2\n"
EIGHT = "classes 8\nwives 7 0 1 2 3 4 5 6\nheirs 1 0 3 2 5 4 7 6\n"
# All signs that a text may hold.
SIGNS = [sign for sign in "\t\n" + "".join(map(chr, range(32, 127))) if sign != "%"]


def tables_of(many):
    turns = [list(turn) for turn in itertools.permutations(range(many))]
    return [Table(wives, heirs) for wives in turns for heirs in turns]


def lists_of(table):
    return (table.wives(), table.heirs())


class ShownTest(unittest.TestCase):

    def test_by_hand(self):
        self.assertEqual(shown(Table([0], [0])), "classes 1\nwives 0\nheirs 0\n")
        self.assertEqual(shown(Table([1, 2, 0], [0, 1, 2])), RING)
        self.assertEqual(shown(Table([7, 0, 1, 2, 3, 4, 5, 6], [1, 0, 3, 2, 5, 4, 7, 6])), EIGHT)

    def test_the_table_stays(self):
        table = Table([1, 2, 0], [0, 1, 2])
        shown(table)
        self.assertEqual(lists_of(table), ([1, 2, 0], [0, 1, 2]))


class ReadTest(unittest.TestCase):

    def test_by_hand(self):
        self.assertIsInstance(read(RING), Table)
        self.assertEqual(lists_of(read(RING)), ([1, 2, 0], [0, 1, 2]))
        self.assertEqual(lists_of(read("classes 1\nwives 0\nheirs 0\n")), ([0], [0]))
        self.assertEqual(lists_of(read(EIGHT)), ([7, 0, 1, 2, 3, 4, 5, 6], [1, 0, 3, 2, 5, 4, 7, 6]))
        self.assertEqual(read(EIGHT).size(), 8)

    def test_what_is_shown_is_read_to_the_same_table(self):
        for many in (1, 2, 3, 4):
            for table in tables_of(many):
                self.assertEqual(lists_of(read(shown(table))), lists_of(table))
        for many in (5, 6, 7, 8):
            onward = list(range(1, many)) + [0]
            back = list(reversed(range(many)))
            for wives, heirs in itertools.product((onward, back), (onward, back)):
                self.assertEqual(lists_of(read(shown(Table(wives, heirs)))), (wives, heirs))

    def test_each_reading_makes_another_table(self):
        first = read(RING)
        self.assertIsNot(first, read(RING))
        first.wives().clear()
        self.assertEqual(lists_of(read(RING)), ([1, 2, 0], [0, 1, 2]))


class BadNoteTest(unittest.TestCase):

    def refuse(self, *texts):
        for text in texts:
            with self.subTest(text=text):
                with self.assertRaises(BadNote) as raised:
                    read(text)
                self.assertIs(raised.exception.__class__, BadNote)

    def test_line_ends(self):
        self.refuse("", "\n", "\n\n\n", RING[:-1], RING + "\n", "\n" + RING, RING.replace("\n", " "),
                    RING.replace("\n", "\n\n"), RING.replace("\n", ""), RING.replace("\n", "\t"))

    def test_a_line_more_or_less(self):
        lines = RING.splitlines(keepends=True)
        self.refuse("".join(lines[:2]), "".join(lines[1:]), lines[0] + lines[2], lines[0])
        self.refuse(RING + "heirs 0 1 2\n", RING + RING, "classes 3\n" + RING, RING + "x", RING + " \n",
                    RING + " ", lines[0] + lines[1] + lines[1] + lines[2])

    def test_lines_in_another_order(self):
        for lines in itertools.permutations(RING.splitlines(keepends=True)):
            if "".join(lines) != RING:
                self.refuse("".join(lines))

    def test_blanks(self):
        self.refuse(RING.replace(" ", "  "), RING.replace("1 2", "1  2"), RING.replace("s 3", "s  3"),
                    RING.replace("wives ", "wives  "), RING.replace(" ", "\t"), RING.replace("1 2", "1\t2"),
                    RING.replace(" ", ""), RING.replace("1 2", "12"), " " + RING, RING.replace("\n", " \n"),
                    RING.replace("\n", "\n "), RING[:-1] + " \n", RING.replace("wives", " wives"))

    def test_words(self):
        self.refuse(RING.replace("classes", "class"), RING.replace("classes", "Classes"),
                    RING.replace("wives", "wife"), RING.replace("wives", "heirs"), RING.replace("heirs", "HEIRS"),
                    RING.replace("heirs", "heirs:"), RING.replace("wives ", ""), RING.replace("classes ", ""),
                    RING.replace("heirs", ""), RING.replace("wives", "wives wives"))

    def test_numbers(self):
        self.refuse(RING.replace("classes 3", "classes 03"), RING.replace("1 2 0", "01 2 0"),
                    RING.replace("1 2 0", "1 2 00"), RING.replace("1 2 0", "+1 2 0"),
                    RING.replace("1 2 0", "1 2 -0"), RING.replace("1 2 0", "-1 2 0"),
                    RING.replace("1 2 0", "1 2 x"), RING.replace("1 2 0", "1 2 0.0"),
                    RING.replace("1 2 0", "1, 2, 0"), RING.replace("1 2 0", "[1, 2, 0]"),
                    RING.replace("classes 3", "classes three"), RING.replace("classes 3", "classes x"))

    def test_how_many(self):
        self.refuse(RING.replace("classes 3", "classes 2"), RING.replace("classes 3", "classes 4"),
                    RING.replace("classes 3", "classes 0"), RING.replace("classes 3", "classes 9"),
                    RING.replace("classes 3", "classes"), RING.replace("classes 3", "classes "),
                    RING.replace("classes 3", "classes 3 3"), RING.replace("classes 3", "classes 3 0"))
        self.refuse("classes 2\nwives 1 0\nheirs 0 1 2\n", "classes 3\nwives 1 0\nheirs 0 1 2\n",
                    "classes 3\nwives 0 1 2\nheirs 1 0\n", "classes 2\nwives 0 1 2\nheirs 1 0\n")

    def test_no_classes_and_nine(self):
        self.refuse("classes 0\nwives\nheirs\n", "classes 0\nwives \nheirs \n", "classes\nwives\nheirs\n")
        nine = "0 1 2 3 4 5 6 7 8"
        self.refuse("classes 9\nwives " + nine + "\nheirs " + nine + "\n",
                    "classes 8\nwives " + nine + "\nheirs " + nine + "\n",
                    "classes 10\nwives " + nine + " 9\nheirs " + nine + " 9\n")

    def test_lists_that_are_no_turns(self):
        self.refuse(RING.replace("1 2 0", "1 2 1"), RING.replace("0 1 2", "0 0 2"),
                    RING.replace("1 2 0", "1 2 3"), RING.replace("0 1 2", "0 1 9"),
                    RING.replace("1 2 0", "0 0 0"), "classes 1\nwives 1\nheirs 0\n",
                    "classes 1\nwives 0\nheirs 1\n", EIGHT.replace("7 6\n", "7 7\n"), EIGHT.replace("7 0", "8 0"))

    def test_long_texts(self):
        self.refuse("x" * 400, " " * 400, "\n" * 400, "classes 3\nwives " + "0 " * 190 + "\n", RING * 11)

    def test_no_other_text_near_a_good_one_is_read(self):
        for text in ("classes 1\nwives 0\nheirs 0\n", "classes 2\nwives 1 0\nheirs 0 1\n"):
            for place in range(len(text) + 1):
                self.check(text[:place] + text[place + 1:])
                for sign in SIGNS:
                    self.check(text[:place] + sign + text[place:])
                    self.check(text[:place] + sign + text[place + 1:])

    def check(self, text):
        """Whatever is read at all is just what its table would be written as."""
        try:
            table = read(text)
        except BadNote:
            return
        self.assertEqual(shown(table), text)


if __name__ == "__main__":
    unittest.main()
