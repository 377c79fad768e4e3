import itertools
import unittest

from kinturns.errors import NoClass, NoTable
from kinturns.tables import Table

ASKS = ["wife_of", "husband_of", "heir_of", "father_of"]


class TurnsTest(unittest.TestCase):

    def test_what_a_table_tells(self):
        table = Table([1, 2, 0, 3], [2, 0, 3, 1])
        self.assertEqual(table.size(), 4)
        self.assertEqual([table.wife_of(c) for c in range(4)], [1, 2, 0, 3])
        self.assertEqual([table.husband_of(c) for c in range(4)], [2, 0, 1, 3])
        self.assertEqual([table.heir_of(c) for c in range(4)], [2, 0, 3, 1])
        self.assertEqual([table.father_of(c) for c in range(4)], [1, 3, 0, 2])
        self.assertEqual(table.wives(), [1, 2, 0, 3])
        self.assertEqual(table.heirs(), [2, 0, 3, 1])

    def test_all_tables_of_three_classes(self):
        turns = [list(turn) for turn in itertools.permutations(range(3))]
        for wives, heirs in itertools.product(turns, turns):
            with self.subTest(wives=wives, heirs=heirs):
                table = Table(wives, heirs)
                for c in range(3):
                    self.assertEqual(table.wife_of(c), wives[c])
                    self.assertEqual(wives[table.husband_of(c)], c)
                    self.assertEqual(table.heir_of(c), heirs[c])
                    self.assertEqual(heirs[table.father_of(c)], c)

    def test_one_class(self):
        table = Table([0], [0])
        self.assertEqual(table.size(), 1)
        self.assertEqual([getattr(table, ask)(0) for ask in ASKS], [0, 0, 0, 0])

    def test_every_size_up_to_eight_classes(self):
        for many in range(1, 9):
            with self.subTest(many=many):
                onward = list(range(1, many)) + [0]
                table = Table(onward, list(range(many)))
                self.assertEqual(table.size(), many)
                self.assertEqual(table.wives(), onward)
                self.assertEqual(table.husband_of(0), many - 1)


class NoTableTest(unittest.TestCase):

    def refuse(self, wives, heirs):
        with self.subTest(wives=wives, heirs=heirs):
            with self.assertRaises(NoTable):
                Table(wives, heirs)

    def refuse_either_way(self, good, bad):
        self.refuse(good, bad)
        self.refuse(bad, good)
        self.refuse(bad, bad)

    def test_no_classes(self):
        self.refuse_either_way([0], [])

    def test_more_than_eight_classes(self):
        for many in (9, 10, 20):
            self.refuse(list(range(many)), list(range(many)))

    def test_unlike_lengths(self):
        self.refuse([0, 1], [0])
        self.refuse([0], [0, 1])
        self.refuse([0, 1, 2], [1, 0])
        self.refuse(list(range(8)), list(range(9)))
        self.refuse(list(range(9)), list(range(8)))

    def test_a_class_twice(self):
        self.refuse_either_way([0, 1], [0, 0])
        self.refuse_either_way([0, 1, 2], [2, 1, 2])

    def test_a_number_that_is_no_class(self):
        self.refuse_either_way([0], [1])
        self.refuse_either_way([0, 1], [0, 2])
        self.refuse_either_way([0, 1], [1, 2])
        self.refuse_either_way([0, 1, 2], [0, 1, 10 ** 30])

    def test_a_negative_number(self):
        self.refuse_either_way([0], [-1])
        self.refuse_either_way([0, 1], [0, -1])
        self.refuse_either_way([0, 1], [-1, -2])


class NoClassTest(unittest.TestCase):

    def test_numbers_that_are_no_class(self):
        for many in (1, 2, 8):
            table = Table(list(range(many)), list(range(many)))
            for ask in ASKS:
                for c in (-1, -many, -many - 1, many, many + 1, 100):
                    with self.subTest(many=many, ask=ask, c=c):
                        with self.assertRaises(NoClass):
                            getattr(table, ask)(c)

    def test_the_greatest_class_is_one(self):
        table = Table(list(range(8)), list(range(8)))
        self.assertEqual([getattr(table, ask)(7) for ask in ASKS], [7, 7, 7, 7])


class NothingKeptTest(unittest.TestCase):

    def check_is_untouched(self, table):
        self.assertEqual(table.size(), 3)
        self.assertEqual(table.wives(), [1, 2, 0])
        self.assertEqual(table.heirs(), [0, 2, 1])
        self.assertEqual([table.wife_of(c) for c in range(3)], [1, 2, 0])
        self.assertEqual([table.husband_of(c) for c in range(3)], [2, 0, 1])
        self.assertEqual([table.heir_of(c) for c in range(3)], [0, 2, 1])
        self.assertEqual([table.father_of(c) for c in range(3)], [0, 2, 1])

    def test_what_is_handed_in_is_not_changed(self):
        wives = [1, 2, 0]
        heirs = [0, 2, 1]
        self.check_is_untouched(Table(wives, heirs))
        self.assertEqual((wives, heirs), ([1, 2, 0], [0, 2, 1]))

    def test_what_is_refused_is_not_changed(self):
        wives = [2, 1, 0]
        heirs = [2, 2, 0]
        with self.assertRaises(NoTable):
            Table(wives, heirs)
        self.assertEqual((wives, heirs), ([2, 1, 0], [2, 2, 0]))

    def test_what_is_handed_in_may_be_changed_later(self):
        wives = [1, 2, 0]
        heirs = [0, 2, 1]
        table = Table(wives, heirs)
        wives[0] = 7
        wives.append(5)
        heirs.clear()
        self.check_is_untouched(table)

    def test_one_list_can_be_both_turns(self):
        turn = [1, 2, 0]
        table = Table(turn, turn)
        turn.reverse()
        self.assertEqual((table.wives(), table.heirs()), ([1, 2, 0], [1, 2, 0]))
        table.wives().clear()
        self.assertEqual((table.wives(), table.heirs()), ([1, 2, 0], [1, 2, 0]))

    def test_lists_that_are_handed_back_are_fresh(self):
        table = Table([1, 2, 0], [0, 2, 1])
        self.assertIsNot(table.wives(), table.wives())
        self.assertIsNot(table.heirs(), table.heirs())
        table.wives()[0] = 9
        table.heirs().clear()
        self.check_is_untouched(table)

    def test_tables_do_not_share(self):
        first = Table([1, 2, 0], [0, 2, 1])
        Table([0, 1], [1, 0])
        self.check_is_untouched(first)


if __name__ == "__main__":
    unittest.main()
