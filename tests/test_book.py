import itertools
import unittest

from kinturns.book import Book
from kinturns.errors import NoParents, NoPerson, NoWalk, TooMany

LETTERS = "fmsdpbz"
NO_WALKS = ["x", "F", " ", "f m", "fm\n", "mother", "\tf", "f" * 61, "b" * 1000, "f" * 60 + "?"]
ASKS = ["sex_of", "father", "mother", "partners", "children"]


def family():
    """Three generations: 0 and 1 have 4, 5, 6; 2 and 3 have 7; 4 and 7 have 8, 9; 0 and 7 have 10."""
    book = Book()
    for sex in ("man", "woman", "man", "woman"):
        book.come(sex)
    book.born("man", 0, 1)
    book.born("woman", 0, 1)
    book.born("man", 0, 1)
    book.born("woman", 2, 3)
    book.born("man", 4, 7)
    book.born("woman", 4, 7)
    book.born("man", 0, 7)
    return book


def full():
    book = Book()
    for number in range(60):
        book.come("woman" if number % 2 else "man")
    return book


def state(book):
    """All that a book tells of its persons."""
    return [[getattr(book, ask)(a) for ask in ASKS] for a in range(book.size())]


def step(persons, a, letter):
    """One letter, by the words of point 8, over rows as `state` tells them."""
    sex, father, mother, partners, _ = persons[a]
    many = range(len(persons))
    if letter in "fm":
        return {parent for parent in [father if letter == "f" else mother] if parent is not None}
    if letter == "p":
        return set(partners)
    wanted = "man" if letter in "sb" else "woman"
    if letter in "sd":
        return {b for b in many if persons[b][0] == wanted and a in persons[b][1:3]}
    if father is None:
        return set()
    return {b for b in many if b != a and persons[b][0] == wanted and persons[b][1:3] == [father, mother]}


def expected(book, a, walk):
    persons = state(book)
    reached = {a}
    for letter in walk:
        reached = {there for here in reached for there in step(persons, here, letter)}
    return sorted(reached)


class PersonsTest(unittest.TestCase):

    def test_a_book_without_persons(self):
        self.assertEqual(Book().size(), 0)

    def test_numbers_as_they_come(self):
        book = Book()
        self.assertEqual(book.come("woman"), 0)
        self.assertEqual(book.come("man"), 1)
        self.assertEqual(book.born("man", 1, 0), 2)
        self.assertEqual(book.come("man"), 3)
        self.assertEqual(book.born("woman", 3, 0), 4)
        self.assertEqual(book.size(), 5)
        self.assertEqual([book.sex_of(a) for a in range(5)], ["woman", "man", "man", "man", "woman"])

    def test_who_comes_has_no_parents(self):
        book = Book()
        for sex in ("man", "woman"):
            a = book.come(sex)
            self.assertIsNone(book.father(a))
            self.assertIsNone(book.mother(a))
            self.assertEqual(book.partners(a), [])
            self.assertEqual(book.children(a), [])

    def test_who_is_born_has_parents(self):
        book = family()
        self.assertEqual([book.father(a) for a in range(11)], [None] * 4 + [0, 0, 0, 2, 4, 4, 0])
        self.assertEqual([book.mother(a) for a in range(11)], [None] * 4 + [1, 1, 1, 3, 7, 7, 7])

    def test_children_of_fathers_and_of_mothers(self):
        book = family()
        self.assertEqual([book.children(a) for a in range(11)],
                         [[4, 5, 6, 10], [4, 5, 6], [7], [7], [8, 9], [], [], [8, 9, 10], [], [], []])

    def test_parents_are_partners(self):
        book = family()
        self.assertEqual([book.partners(a) for a in range(11)],
                         [[1, 7], [0], [3], [2], [7], [], [], [0, 4], [], [], []])

    def test_parents_that_were_partners_are_so_once(self):
        book = Book()
        book.come("man")
        book.come("woman")
        book.wed(0, 1)
        book.born("man", 0, 1)
        book.born("man", 0, 1)
        self.assertEqual((book.partners(0), book.partners(1), book.partners(2)), ([1], [0], []))

    def test_the_numbers_nought_are_parents_too(self):
        book = Book()
        book.come("man")
        book.come("woman")
        book.born("man", 0, 1)
        self.assertEqual((book.father(2), book.mother(2)), (0, 1))
        self.assertEqual(book.kin(2, "f"), [0])

    def test_books_do_not_share(self):
        one = Book()
        other = Book()
        one.come("man")
        self.assertEqual((one.size(), other.size()), (1, 0))
        other.come("woman")
        self.assertEqual((one.sex_of(0), other.sex_of(0)), ("man", "woman"))


class WedTest(unittest.TestCase):

    def test_partners_of_each_other(self):
        book = Book()
        for sex in ("man", "woman", "man", "woman"):
            book.come(sex)
        self.assertIsNone(book.wed(2, 1))
        self.assertEqual([book.partners(a) for a in range(4)], [[], [2], [1], []])
        self.assertEqual([book.children(a) for a in range(4)], [[], [], [], []])

    def test_several_partners_as_a_rising_list(self):
        book = Book()
        for sex in ("woman", "man", "woman", "man", "woman"):
            book.come(sex)
        for man, woman in ((3, 4), (3, 0), (3, 2), (1, 4)):
            book.wed(man, woman)
        self.assertEqual([book.partners(a) for a in range(5)], [[3], [4], [3], [0, 2, 4], [1, 3]])

    def test_nothing_is_done_where_they_are_partners(self):
        book = family()
        before = state(book)
        self.assertIsNone(book.wed(0, 1))
        self.assertIsNone(book.wed(0, 7))
        self.assertEqual(state(book), before)

    def test_kin_can_be_wed(self):
        book = family()
        book.wed(4, 5)
        book.wed(4, 1)
        self.assertEqual(book.partners(4), [1, 5, 7])

    def test_a_full_book_can_wed(self):
        book = full()
        self.assertIsNone(book.wed(58, 59))
        self.assertEqual((book.partners(58), book.partners(59)), ([59], [58]))


class SixtyPersonsTest(unittest.TestCase):

    def test_sixty_come_and_no_more(self):
        book = full()
        self.assertEqual(book.size(), 60)
        self.assertEqual([book.sex_of(a) for a in (0, 59)], ["man", "woman"])
        before = state(book)
        for sex in ("man", "woman"):
            with self.assertRaises(TooMany):
                book.come(sex)
        self.assertEqual(book.size(), 60)
        self.assertEqual(state(book), before)

    def test_the_sixtieth_can_be_born(self):
        book = Book()
        for number in range(59):
            book.come("woman" if number % 2 else "man")
        self.assertEqual(book.born("man", 58, 57), 59)
        self.assertEqual((book.father(59), book.mother(59)), (58, 57))

    def test_no_more_are_born_and_the_parents_stay_apart(self):
        book = full()
        before = state(book)
        with self.assertRaises(TooMany):
            book.born("man", 0, 1)
        self.assertEqual(state(book), before)
        self.assertEqual((book.partners(0), book.partners(1)), ([], []))

    def test_no_person_goes_ahead_of_too_many(self):
        book = full()
        for father, mother in ((60, 1), (0, 60), (-1, 1), (0, -1)):
            with self.assertRaises(NoPerson):
                book.born("man", father, mother)

    def test_no_parents_go_ahead_of_too_many(self):
        book = full()
        for father, mother in ((1, 0), (0, 2), (1, 3), (0, 0), (1, 1)):
            with self.assertRaises(NoParents):
                book.born("man", father, mother)
        self.assertEqual(book.size(), 60)


class RefusedTest(unittest.TestCase):

    def refuse(self, error, book, name, *given):
        before = state(book)
        with self.subTest(name=name, given=given):
            with self.assertRaises(error):
                getattr(book, name)(*given)
            self.assertEqual(state(book), before)

    def refuse_couple(self, error, book, man, woman):
        self.refuse(error, book, "wed", man, woman)
        self.refuse(error, book, "born", "man", man, woman)
        self.refuse(error, book, "born", "woman", man, woman)

    def test_numbers_that_are_no_person(self):
        for book in (Book(), family()):
            many = book.size()
            for a in (-1, -2, -many, -many - 1, many, many + 1, 60, 1000):
                if a != 0:
                    for ask in ASKS:
                        self.refuse(NoPerson, book, ask, a)
                    self.refuse(NoPerson, book, "kin", a, "")
                    self.refuse(NoPerson, book, "kin", a, "fm")

    def test_nought_is_no_person_of_an_empty_book(self):
        for ask in ASKS:
            self.refuse(NoPerson, Book(), ask, 0)
        self.refuse(NoPerson, Book(), "kin", 0, "")
        self.refuse_couple(NoPerson, Book(), 0, 0)

    def test_either_of_a_couple_is_no_person(self):
        # By places from the list's end, -11 would be the man 0, and -10 the woman 1.
        for bad in (-1, -10, -11, 11, 60, 1000):
            self.refuse_couple(NoPerson, family(), bad, 1)
            self.refuse_couple(NoPerson, family(), 0, bad)
            self.refuse_couple(NoPerson, family(), bad, bad)

    def test_no_person_goes_ahead_of_no_parents(self):
        self.refuse_couple(NoPerson, family(), 1, 11)
        self.refuse_couple(NoPerson, family(), 11, 0)
        self.refuse_couple(NoPerson, family(), 1, -1)
        self.refuse_couple(NoPerson, family(), -1, 0)

    def test_a_father_who_is_a_woman(self):
        self.refuse_couple(NoParents, family(), 1, 3)
        self.refuse_couple(NoParents, family(), 1, 1)

    def test_a_mother_who_is_a_man(self):
        self.refuse_couple(NoParents, family(), 0, 2)
        self.refuse_couple(NoParents, family(), 0, 0)

    def test_both_the_wrong_way_round(self):
        self.refuse_couple(NoParents, family(), 1, 0)
        self.refuse_couple(NoParents, family(), 3, 0)

    def test_the_next_number_is_as_if_nothing_was_refused(self):
        book = family()
        self.refuse_couple(NoParents, book, 1, 0)
        self.refuse_couple(NoPerson, book, 0, 11)
        self.assertEqual(book.come("man"), 11)


class KinTest(unittest.TestCase):

    def test_no_letters(self):
        for a in range(11):
            self.assertEqual(family().kin(a, ""), [a])

    def test_father_and_mother(self):
        book = family()
        self.assertEqual((book.kin(8, "f"), book.kin(8, "m")), ([4], [7]))
        self.assertEqual((book.kin(0, "f"), book.kin(0, "m")), ([], []))
        self.assertEqual((book.kin(8, "ff"), book.kin(8, "fff")), ([0], []))

    def test_partners(self):
        book = family()
        self.assertEqual((book.kin(0, "p"), book.kin(7, "p"), book.kin(8, "p")), ([1, 7], [0, 4], []))
        self.assertEqual(book.kin(1, "ppp"), [0, 4])

    def test_sons_and_daughters(self):
        book = family()
        self.assertEqual((book.kin(0, "s"), book.kin(0, "d")), ([4, 6, 10], [5]))
        self.assertEqual((book.kin(7, "s"), book.kin(7, "d")), ([8, 10], [9]))
        self.assertEqual((book.kin(8, "s"), book.kin(8, "d")), ([], []))

    def test_brothers_and_sisters(self):
        book = family()
        self.assertEqual((book.kin(4, "b"), book.kin(4, "z")), ([6], [5]))
        self.assertEqual((book.kin(5, "b"), book.kin(5, "z")), ([4, 6], []))
        self.assertEqual((book.kin(8, "b"), book.kin(9, "b")), ([], [8]))

    def test_one_parent_alone_makes_no_brothers(self):
        # 10 shares the father with 4, 5, 6 and the mother with 8, 9.
        book = family()
        self.assertEqual((book.kin(10, "b"), book.kin(10, "z")), ([], []))

    def test_whoever_has_no_parents_has_no_brothers_and_sisters(self):
        book = family()
        for a in range(4):
            self.assertEqual((book.kin(a, "b"), book.kin(a, "z")), ([], []))

    def test_each_is_told_once(self):
        book = family()
        self.assertEqual(book.kin(0, "sf"), [0])
        self.assertEqual(book.kin(0, "ps"), [4, 6, 8, 10])
        self.assertEqual(book.kin(9, "bm"), [7])

    def test_a_person_can_be_reached_again(self):
        book = family()
        self.assertEqual(book.kin(4, "bb"), [4])
        self.assertEqual(book.kin(5, "bb"), [4, 6])
        self.assertEqual(book.kin(8, "fbbs"), [8])
        self.assertEqual(book.kin(5, "bz"), [5])

    def test_the_first_letter_is_walked_first(self):
        book = family()
        self.assertEqual((book.kin(8, "fm"), book.kin(8, "mf")), ([1], [2]))

    def test_nobody_is_reached_from_nobody(self):
        self.assertEqual(family().kin(0, "f" + "psdbz" * 4), [])

    def test_sixty_signs(self):
        self.assertEqual(family().kin(4, "b" * 60), [4])
        self.assertEqual(family().kin(4, "b" * 59), [6])
        self.assertEqual(family().kin(0, "f" * 60), [])
        walk = "sfpds" * 3 + "fbzpm" * 9
        self.assertEqual(len(walk), 60)
        self.assertEqual(family().kin(0, walk), expected(family(), 0, walk))

    def test_by_the_words(self):
        book = family()
        for length in range(4):
            for letters in itertools.product(LETTERS, repeat=length):
                walk = "".join(letters)
                for a in range(11):
                    self.assertEqual(book.kin(a, walk), expected(book, a, walk), (a, walk))

    def test_a_full_book(self):
        book = Book()
        for number in range(8):
            book.come("woman" if number % 2 else "man")
        while book.size() < 60:
            number = book.size()
            born = [a for a in range(number) if a > number - 9]
            men = [a for a in born if book.sex_of(a) == "man"]
            women = [a for a in born if book.sex_of(a) == "woman"]
            book.born("man" if number % 3 else "woman", men[number % len(men)], women[number // 3 % len(women)])
        for walk in ("f", "mz", "spd", "fbs", "mbdp", "ffsds", "pbzsdm", "fmsdpbz" * 8 + "pmsd"):
            for a in range(60):
                self.assertEqual(book.kin(a, walk), expected(book, a, walk), (a, walk))

    def test_no_walk(self):
        for walk, a in itertools.product(NO_WALKS, (0, 8, 10)):
            with self.subTest(walk=walk, a=a):
                with self.assertRaises(NoWalk):
                    family().kin(a, walk)

    def test_no_walk_where_nobody_is_reached_any_more(self):
        with self.assertRaises(NoWalk):
            family().kin(0, "f?")

    def test_no_person_goes_ahead_of_no_walk(self):
        for walk, a in itertools.product(NO_WALKS, (-1, 11, 60)):
            with self.subTest(walk=walk, a=a):
                with self.assertRaises(NoPerson):
                    family().kin(a, walk)


class NothingSharedTest(unittest.TestCase):

    def test_lists_that_are_handed_back_are_fresh(self):
        book = family()
        before = state(book)
        for a in range(11):
            for answer in (book.partners(a), book.children(a), book.kin(a, ""), book.kin(a, "p"),
                           book.kin(a, "s"), book.kin(a, "b")):
                answer.append(99)
                answer.reverse()
        self.assertEqual(state(book), before)
        self.assertEqual(book.kin(0, "p"), [1, 7])

    def test_asking_changes_nothing(self):
        book = family()
        before = state(book)
        book.kin(0, "spds")
        self.assertEqual(state(book), before)

    def test_sex_and_parents_stay_as_the_book_grows(self):
        book = family()
        before = [row[:3] for row in state(book)]
        book.wed(8, 5)
        book.born("man", 8, 5)
        book.come("woman")
        self.assertEqual([row[:3] for row in state(book)][:11], before)


if __name__ == "__main__":
    unittest.main()
