import itertools
import unittest

from kinturns.book import Book
from kinturns.errors import NoClass, NoPerson
from kinturns.fits import fitting, many_ways
from kinturns.tables import Table
from kinturns.walks import walked

LETTERS = "fmsdpbz"


def ring():
    """Three classes in a ring: each marries his mother's brother's daughter."""
    return Table([1, 2, 0], [0, 1, 2])


def tables_of(many):
    turns = [list(turn) for turn in itertools.permutations(range(many))]
    return [Table(wives, heirs) for wives in turns for heirs in turns]


def book_of(sexes, weddings=(), births=()):
    book = Book()
    for sex in sexes:
        book.come("man" if sex == "m" else "woman")
    for man, woman in weddings:
        book.wed(man, woman)
    for sex, father, mother in births:
        book.born("man" if sex == "m" else "woman", father, mother)
    return book


def books():
    """Small books of several shapes: lone persons, couples, shared partners, families, marriages of near kin."""
    return [
        book_of(""),
        book_of("m"),
        book_of("wm"),
        book_of("mw", [(0, 1)]),
        book_of("mwmw", [(0, 1), (2, 1), (2, 3)]),
        book_of("mwm", [(2, 1)], [("w", 0, 1)]),
        book_of("mw", [], [("m", 0, 1), ("w", 0, 1)]),
        book_of("mw", [], [("m", 0, 1), ("w", 0, 1), ("w", 2, 3)]),
        book_of("mw", [], [("w", 0, 1), ("m", 0, 2)]),
        book_of("mwm", [], [("m", 0, 1), ("w", 2, 1), ("m", 3, 4)]),
        book_of("mwmw", [], [("m", 0, 1), ("w", 2, 3), ("m", 4, 5)]),
    ]


def cousins():
    """4 and 5 are brother and sister; 8, her son, weds 9, her brother's daughter."""
    book = book_of("mwmw", [], [("m", 0, 1), ("w", 0, 1)])
    book.come("man")
    book.come("woman")
    book.born("man", 6, 5)
    book.born("woman", 4, 7)
    book.wed(8, 9)
    return book


def full_of_kin():
    book = book_of("mw")
    while book.size() < 60:
        number = book.size()
        men = [a for a in range(number) if book.sex_of(a) == "man"]
        women = [a for a in range(number) if book.sex_of(a) == "woman"]
        book.born("man" if number % 3 else "woman", men[-1], women[-1])
    return book


def fits(book, table, classes):
    """By the words of point 9."""
    for a in range(book.size()):
        if book.sex_of(a) == "man":
            for b in book.partners(a):
                if classes[b] != table.wives()[classes[a]]:
                    return False
            for b in book.children(a):
                if classes[b] != table.heirs()[classes[a]]:
                    return False
    return True


def fits_by_trying_all(book, table):
    lists = itertools.product(range(table.size()), repeat=book.size())
    return [list(classes) for classes in lists if fits(book, table, classes)]


def hanging_with(book, a):
    reached = {a}
    for _ in range(book.size()):
        reached |= {b for here in reached for letter in "fmpsd" for b in book.kin(here, letter)}
    return reached


def state(book):
    return [[book.sex_of(a), book.father(a), book.mother(a), book.partners(a), book.children(a)]
            for a in range(book.size())]


class FittingTest(unittest.TestCase):

    def test_one_person(self):
        for c in range(3):
            self.assertEqual(fitting(book_of("m"), ring(), 0, c), [c])

    def test_partners(self):
        book = book_of("mw", [(0, 1)])
        self.assertEqual(fitting(book, ring(), 0, 0), [0, 1])
        self.assertEqual(fitting(book, ring(), 0, 2), [2, 0])
        self.assertEqual(fitting(book, ring(), 1, 0), [2, 0])

    def test_parents_and_children(self):
        table = Table([1, 0, 3, 2], [2, 3, 1, 0])
        book = book_of("mw", [], [("m", 0, 1), ("w", 0, 1)])
        self.assertEqual(fitting(book, table, 0, 0), [0, 1, 2, 2])
        self.assertEqual(fitting(book, table, 1, 0), [1, 0, 3, 3])
        self.assertEqual(fitting(book, table, 2, 0), [3, 2, 0, 0])
        self.assertEqual(fitting(book, table, 3, 1), [2, 3, 1, 1])

    def test_none_for_those_who_do_not_hang_together(self):
        book = book_of("mwmwm", [(2, 1)])
        self.assertEqual(fitting(book, ring(), 2, 1), [None, 2, 1, None, None])
        self.assertEqual(fitting(book, ring(), 0, 0), [0, None, None, None, None])
        self.assertEqual(fitting(book, ring(), 4, 2), [None, None, None, None, 2])

    def test_from_one_to_the_next(self):
        # 0 and 4 hang together through 1, 2 and 3 alone.
        book = book_of("mwmwm", [(0, 1), (2, 1), (2, 3), (4, 3)])
        self.assertEqual(fitting(book, ring(), 0, 0), [0, 1, 0, 1, 0])
        self.assertEqual(fitting(book, ring(), 4, 2), [2, 0, 2, 0, 2])

    def test_cousins_who_marry_by_the_table(self):
        classes = fitting(cousins(), ring(), 8, 0)
        self.assertEqual([classes[8], classes[9]], [0, 1])
        self.assertEqual(classes[5], walked(ring(), "man", 0, "m")[1])
        self.assertEqual(classes[2:4], [None, None])

    def test_two_classes_for_one_person(self):
        # By neither table brother and sister are of classes that marry.
        for table in (Table([1, 2, 0], [1, 2, 0]), Table([1, 0], [1, 0])):
            for c in range(table.size()):
                book = book_of("mw", [], [("m", 0, 1), ("w", 0, 1)])
                self.assertIsNotNone(fitting(book, table, 2, c))
                book.wed(2, 3)
                self.assertIsNone(fitting(book, table, 2, c))

    def test_two_classes_for_one_far_from_the_first(self):
        book = book_of("mwmw", [(0, 1), (2, 1), (2, 3)], [("m", 2, 3), ("w", 2, 3)])
        book.wed(4, 5)
        for a in range(6):
            for c in range(3):
                self.assertIsNone(fitting(book, ring(), a, c))

    def test_others_who_fit_in_no_way_do_not_hinder(self):
        book = book_of("mmw", [], [("m", 1, 2), ("w", 1, 2)])
        book.wed(3, 4)
        self.assertEqual(fitting(book, ring(), 0, 1), [1, None, None, None, None])
        self.assertIsNone(fitting(book, ring(), 1, 1))

    def test_two_classes_by_some_classes_alone(self):
        # Two parts: in the class 0 brother and sister may wed, in the classes 1 and 2 they may not.
        book = book_of("mw", [], [("m", 0, 1), ("w", 0, 1)])
        book.wed(2, 3)
        table = Table([0, 2, 1], [0, 1, 2])
        self.assertEqual([fitting(book, table, 0, c) for c in range(3)], [[0, 0, 0, 0], None, None])

    def test_by_trying_all_lists(self):
        for book in books():
            for table in tables_of(2) + tables_of(3)[::5]:
                all_lists = fits_by_trying_all(book, table)
                for a, c in itertools.product(range(book.size()), range(table.size())):
                    self.check_by_all(book, table, a, c, all_lists)

    def check_by_all(self, book, table, a, c, all_lists):
        said = (state(book), table.wives(), table.heirs(), a, c)
        together = hanging_with(book, a)
        found = fitting(book, table, a, c)
        if found is not None:
            self.assertEqual([b for b in range(book.size()) if found[b] is not None], sorted(together), said)
        with_c = [classes for classes in all_lists if classes[a] == c]
        for classes in with_c:
            self.assertEqual(found, [classes[b] if b in together else None for b in range(book.size())], said)
        if all_lists and not with_c:
            self.assertIsNone(found, said)

    def test_a_full_book(self):
        book = full_of_kin()
        self.assertEqual(book.size(), 60)
        self.assertEqual(fitting(book, Table([0], [0]), 59, 0), [0] * 60)
        self.assertEqual(fitting(book, Table([0, 1], [0, 1]), 59, 1), [1] * 60)

    def test_eight_classes(self):
        table = Table([1, 2, 3, 4, 5, 6, 7, 0], [7, 0, 1, 2, 3, 4, 5, 6])
        book = book_of("mw", [], [("m", 0, 1)])
        self.assertEqual(fitting(book, table, 2, 7), [0, 1, 7])

    def test_no_person(self):
        for book in (book_of(""), cousins()):
            for a in (-1, -book.size() - 1, book.size(), 60, 1000):
                with self.subTest(size=book.size(), a=a):
                    with self.assertRaises(NoPerson):
                        fitting(book, ring(), a, 0)

    def test_no_class(self):
        for c in (-1, -3, 3, 4, 8, 100):
            for a in range(10):
                with self.subTest(a=a, c=c):
                    with self.assertRaises(NoClass):
                        fitting(cousins(), ring(), a, c)

    def test_no_class_for_a_person_that_hangs_by_none(self):
        with self.assertRaises(NoClass):
            fitting(book_of("m"), ring(), 0, 3)
        with self.assertRaises(NoClass):
            fitting(book_of("m"), ring(), 0, -1)

    def test_no_class_where_no_class_fits(self):
        book = book_of("mw", [], [("m", 0, 1), ("w", 0, 1)])
        book.wed(2, 3)
        with self.assertRaises(NoClass):
            fitting(book, ring(), 0, 3)

    def test_no_person_goes_ahead_of_no_class(self):
        for a, c in itertools.product((-1, 10, 60), (-1, 3, 8)):
            with self.subTest(a=a, c=c):
                with self.assertRaises(NoPerson):
                    fitting(cousins(), ring(), a, c)


class ManyWaysTest(unittest.TestCase):

    def test_a_book_without_persons(self):
        for table in (Table([0], [0]), ring(), Table(list(range(8)), list(range(8)))):
            self.assertEqual(many_ways(Book(), table), 1)

    def test_persons_who_do_not_hang_together(self):
        self.assertEqual(many_ways(book_of("m"), ring()), 3)
        self.assertEqual(many_ways(book_of("mw"), ring()), 9)
        self.assertEqual(many_ways(book_of("mwmw"), Table([0], [0])), 1)
        self.assertEqual(many_ways(book_of("mw" * 30), Table(list(range(8)), list(range(8)))), 8 ** 60)

    def test_persons_who_hang_together(self):
        self.assertEqual(many_ways(book_of("mw", [(0, 1)]), ring()), 3)
        self.assertEqual(many_ways(book_of("mwm", [(0, 1)]), ring()), 9)
        self.assertEqual(many_ways(cousins(), ring()), 27)

    def test_in_no_way(self):
        book = book_of("mw", [], [("m", 0, 1), ("w", 0, 1)])
        book.wed(2, 3)
        self.assertEqual(many_ways(book, ring()), 0)
        book.come("man")
        self.assertEqual(many_ways(book, ring()), 0)
        self.assertEqual(many_ways(book, Table([0], [0])), 1)

    def test_some_classes_fit_and_some_do_not(self):
        book = book_of("mw", [], [("m", 0, 1), ("w", 0, 1)])
        book.wed(2, 3)
        self.assertEqual(many_ways(book, Table([0, 2, 1], [0, 1, 2])), 1)
        self.assertEqual(many_ways(book, Table([0, 1, 3, 2], [0, 1, 2, 3])), 2)
        book.come("man")
        self.assertEqual(many_ways(book, Table([0, 1, 3, 2], [0, 1, 2, 3])), 8)

    def test_by_trying_all_lists(self):
        for book in books():
            for table in tables_of(1) + tables_of(2) + tables_of(3)[::5]:
                self.assertEqual(many_ways(book, table), len(fits_by_trying_all(book, table)),
                                 (state(book), table.wives(), table.heirs()))

    def test_a_full_book(self):
        self.assertEqual(many_ways(full_of_kin(), Table([0, 1], [0, 1])), 2)


class WalksInFittingBooksTest(unittest.TestCase):
    """Point 10."""

    def check(self, book, table, walks):
        for a, c in itertools.product(range(book.size()), range(table.size())):
            classes = fitting(book, table, a, c)
            if classes is not None:
                for walk in walks:
                    for b in book.kin(a, walk):
                        self.assertEqual((book.sex_of(b), classes[b]), walked(table, book.sex_of(a), c, walk),
                                         (state(book), table.wives(), table.heirs(), a, c, walk))

    def test_short_walks_in_small_books(self):
        walks = ["".join(letters) for length in range(4) for letters in itertools.product(LETTERS, repeat=length)]
        for book in books():
            for table in tables_of(2) + [ring(), Table([0, 2, 1], [1, 2, 0])]:
                self.check(book, table, walks)
        self.check(cousins(), ring(), walks)

    def test_long_walks(self):
        walks = ["b" * 60, "pp" * 30, "fmdpszb", "sfdm" * 15, "mbd" * 4, "fsfd" + "mszb" * 14]
        self.check(cousins(), ring(), walks)
        self.check(full_of_kin(), Table([0, 1], [0, 1]), walks)


class NothingKeptTest(unittest.TestCase):

    def test_what_is_handed_in_stays(self):
        book = cousins()
        table = ring()
        before = state(book)
        fitting(book, table, 8, 0)
        many_ways(book, table)
        self.assertEqual(state(book), before)
        self.assertEqual((table.wives(), table.heirs()), ([1, 2, 0], [0, 1, 2]))

    def test_a_book_may_grow_later(self):
        book = book_of("mw")
        first = fitting(book, ring(), 0, 0)
        self.assertEqual(many_ways(book, ring()), 9)
        book.wed(0, 1)
        book.come("man")
        self.assertEqual(first, [0, None])
        self.assertEqual(fitting(book, ring(), 0, 0), [0, 1, None])
        self.assertEqual(many_ways(book, ring()), 9)

    def test_lists_that_are_handed_back_are_fresh(self):
        book = cousins()
        first = fitting(book, ring(), 8, 0)
        kept = list(first)
        first.clear()
        self.assertEqual(fitting(book, ring(), 8, 0), kept)


if __name__ == "__main__":
    unittest.main()
