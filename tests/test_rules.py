import itertools
import unittest

from kinturns.errors import NoRule, NoWalk
from kinturns.rules import breach, first_table
from kinturns.tables import Table
from kinturns.walks import parts, turn_of

# Each marries his mother's brother's daughter: three classes in a ring.
RING_WIVES = [1, 2, 0]
RING_HEIRS = [0, 1, 2]
NO_WALKS = ["x", "P", " ", "p ", "p\n", "mother", "mbd?", "p" * 61, "b" * 60 + "p", "z" * 100]
TO_A_MAN = ["", "b", "f", "s", "pp", "mb", "fzs", "bb" * 30]
WORDS = ["may", "never"]


def ring():
    return Table(RING_WIVES, RING_HEIRS)


def turns_in_order(many):
    return [list(turn) for turn in itertools.permutations(range(many))]


def is_one_part(wives, heirs):
    reached = {0}
    for _ in wives:
        reached |= {turn[c] for c in reached for turn in (wives, heirs)}
    return len(reached) == len(wives)


def keeps(wives, heirs, rules):
    """By the words of point 5, with the turns of the walks as point 3 tells them."""
    table = Table(wives, heirs)
    for word, walk in rules:
        same = [there == wife for there, wife in zip(turn_of(table, "man", walk), wives)]
        if word == "may" and not all(same) or word == "never" and any(same):
            return False
    return True


def first_by_trying_all(rules, most):
    for many in range(1, most + 1):
        for wives in turns_in_order(many):
            for heirs in turns_in_order(many):
                if is_one_part(wives, heirs) and keeps(wives, heirs, rules):
                    return (wives, heirs)
    return None


def lists_of(table):
    return None if table is None else (table.wives(), table.heirs())


class BreachTest(unittest.TestCase):

    def test_no_rules(self):
        self.assertIsNone(breach(ring(), []))
        self.assertIsNone(breach(Table([0], [0]), []))

    def test_kept(self):
        self.assertIsNone(breach(ring(), [("may", "mbd")]))
        self.assertIsNone(breach(ring(), [("never", "fzd")]))
        self.assertIsNone(breach(ring(), [("may", "p"), ("never", "z"), ("may", "mbd"), ("never", "fzd")]))

    def test_one_class_keeps_each_may_and_breaks_each_never(self):
        for walk in ("p", "z", "d", "m", "mbd", "fzd"):
            with self.subTest(walk=walk):
                self.assertIsNone(breach(Table([0], [0]), [("may", walk)]))
                self.assertEqual(breach(Table([0], [0]), [("never", walk)]), (0, 0))

    def test_a_broken_may_tells_the_least_class_that_leads_elsewhere(self):
        self.assertEqual(breach(ring(), [("may", "fzd")]), (0, 0))
        self.assertEqual(breach(Table([0, 1, 3, 2], [0, 1, 2, 3]), [("may", "z")]), (0, 2))
        self.assertEqual(breach(Table([0, 2, 1], [1, 2, 0]), [("may", "z")]), (0, 1))
        self.assertEqual(breach(Table([0, 1, 2, 3, 4, 5, 7, 6], list(range(8))), [("may", "z")]), (0, 6))

    def test_a_broken_never_tells_the_least_class_that_leads_to_the_wives(self):
        self.assertEqual(breach(ring(), [("never", "mbd")]), (0, 0))
        self.assertEqual(breach(Table([1, 0, 2, 3], [0, 1, 2, 3]), [("never", "z")]), (0, 2))
        self.assertEqual(breach(Table([2, 1, 0], [1, 2, 0]), [("never", "z")]), (0, 1))
        self.assertEqual(breach(Table([1, 0, 3, 2, 5, 6, 4, 7], list(range(8))), [("never", "z")]), (0, 7))

    def test_a_table_can_keep_neither(self):
        table = Table([0, 2, 1], [0, 1, 2])
        self.assertEqual(breach(table, [("may", "z")]), (0, 1))
        self.assertEqual(breach(table, [("never", "z")]), (0, 0))

    def test_the_first_broken_rule_goes_by_its_place_ahead_of_the_class(self):
        table = Table([0, 1, 3, 2], [0, 1, 2, 3])
        self.assertEqual(breach(table, [("may", "z"), ("never", "z")]), (0, 2))
        self.assertEqual(breach(table, [("never", "z"), ("may", "z")]), (0, 0))
        self.assertEqual(breach(table, [("may", "p"), ("may", "z"), ("never", "p")]), (1, 2))
        self.assertEqual(breach(ring(), [("may", "p")] * 20 + [("never", "mbd")]), (20, 0))

    def test_the_answer_is_a_tuple(self):
        self.assertIsInstance(breach(ring(), [("never", "p")]), tuple)

    def test_walks_of_sixty_signs(self):
        self.assertIsNone(breach(ring(), [("may", "b" * 59 + "p")]))
        self.assertEqual(breach(ring(), [("never", "fs" * 29 + "bp")]), (0, 0))

    def test_all_tables_of_three_classes(self):
        walks = ["p", "z", "d", "m", "mbd", "fzd", "pbp", "mmbdd", "sd"]
        for wives, heirs in itertools.product(turns_in_order(3), turns_in_order(3)):
            table = Table(wives, heirs)
            for walk in walks:
                there = turn_of(table, "man", walk)
                unlike = [c for c in range(3) if there[c] != wives[c]]
                same = [c for c in range(3) if there[c] == wives[c]]
                said = (wives, heirs, walk)
                self.assertEqual(breach(table, [("may", walk)]), (0, unlike[0]) if unlike else None, said)
                self.assertEqual(breach(table, [("never", walk)]), (0, same[0]) if same else None, said)


class RefusedRules:
    """What holds for both functions; `ask` is the one at hand."""

    def refuse(self, error, rules):
        with self.subTest(rules=rules):
            with self.assertRaises(error) as raised:
                self.ask(rules)
            self.assertIs(raised.exception.__class__, error)

    def test_no_walk(self):
        for word, walk in itertools.product(WORDS, NO_WALKS):
            self.refuse(NoWalk, [(word, walk)])

    def test_a_walk_that_leads_to_a_man(self):
        for word, walk in itertools.product(WORDS, TO_A_MAN):
            self.refuse(NoRule, [(word, walk)])

    def test_what_is_no_walk_is_not_asked_where_it_leads(self):
        for word, walk in itertools.product(WORDS, ["xb", "b" * 61, "xs"]):
            self.refuse(NoWalk, [(word, walk)])

    def test_the_first_rule_that_is_refused(self):
        self.refuse(NoRule, [("may", "f"), ("may", "x")])
        self.refuse(NoWalk, [("may", "x"), ("may", "f")])
        self.refuse(NoRule, [("may", "p"), ("never", "mb"), ("never", "p" * 61)])
        self.refuse(NoWalk, [("may", "p"), ("never", "p" * 61), ("never", "mb")])

    def test_ahead_of_all_breaches(self):
        self.refuse(NoRule, [("never", "p"), ("may", "fzd"), ("may", "f")])
        self.refuse(NoWalk, [("never", "p"), ("may", "fzd"), ("may", "x")])

    def test_another_word_makes_no_rule(self):
        self.refuse(NoRule, [("must", "p")])
        self.refuse(NoWalk, [("must", "x")])

    def test_what_is_refused_is_not_changed(self):
        rules = [("may", "p"), ("never", "f")]
        self.refuse(NoRule, rules)
        self.assertEqual(rules, [("may", "p"), ("never", "f")])


class BreachRefusesTest(RefusedRules, unittest.TestCase):

    def ask(self, rules):
        return breach(ring(), rules)


class FirstTableRefusesTest(RefusedRules, unittest.TestCase):

    def ask(self, rules):
        return first_table(rules, 4)


class FirstTableOfOneRefusesTest(RefusedRules, unittest.TestCase):

    def ask(self, rules):
        return first_table(rules, 1)


class FirstTableTest(unittest.TestCase):

    def check(self, rules, most, wives, heirs):
        with self.subTest(rules=rules, most=most):
            self.assertEqual(lists_of(first_table(rules, most)), (wives, heirs))

    def test_no_rules(self):
        for most in (1, 2, 3, 4):
            self.check([], most, [0], [0])

    def test_one_class_is_enough_for_each_may(self):
        for most in (1, 4):
            self.check([("may", "z"), ("may", "mbd"), ("may", "d")], most, [0], [0])

    def test_by_hand(self):
        # Not the sister: two classes, of which the least heirs leave the children with the father.
        self.check([("never", "z")], 4, [1, 0], [0, 1])
        # The mother's brother's daughter, but not the father's sister's: three in a ring.
        self.check([("may", "mbd"), ("never", "fzd")], 4, [1, 2, 0], [0, 1, 2])
        # The sister, but not the daughter: the heirs alone make the one part.
        self.check([("may", "z"), ("never", "d")], 4, [0, 1], [1, 0])
        self.check([("may", "z"), ("never", "d"), ("never", "sd")], 4, [0, 1, 2], [1, 2, 0])

    def test_the_least_wives_go_ahead_of_the_least_heirs(self):
        # Both ([0, 1], [1, 0]) and ([1, 0], [0, 1]) keep it.
        self.check([("never", "d")], 2, [0, 1], [1, 0])
        self.assertIsNone(breach(Table([1, 0], [0, 1]), [("never", "d")]))

    def test_four_classes_are_needed(self):
        rules = [("never", "z"), ("never", "m"), ("never", "d"), ("never", "sd"), ("may", "mbd"), ("may", "fzd")]
        self.assertIsNone(first_table(rules, 3))
        self.check(rules, 4, *first_by_trying_all(rules, 4))
        self.assertEqual(first_table(rules, 4).size(), 4)

    def test_none(self):
        for most in (1, 2, 3, 4):
            with self.subTest(most=most):
                self.assertIsNone(first_table([("never", "p")], most))
                self.assertIsNone(first_table([("may", "z"), ("never", "z")], most))
        self.assertIsNone(first_table([("never", "z")], 1))
        self.assertIsNone(first_table([("may", "mbd"), ("never", "fzd")], 2))

    def test_one_part_alone(self):
        # Two classes that each marry within and stay as they are would keep these rules, but in two parts.
        rules = [("may", "z"), ("may", "d")]
        self.assertIsNone(breach(Table([0, 1], [0, 1]), rules))
        self.check(rules, 4, [0], [0])
        for rules in ([("never", "z")], [("never", "d")], [("never", "m"), ("never", "sd")]):
            self.assertEqual(len(parts(first_table(rules, 4))), 1)

    def test_by_trying_all_tables(self):
        walks = ["z", "d", "m", "mbd", "fzd", "sd", "pbp"]
        one_rule = [(word, walk) for word in WORDS for walk in walks]
        for rules in itertools.combinations(one_rule, 2):
            for most in (1, 2, 3):
                self.assertEqual(lists_of(first_table(list(rules), most)),
                                 first_by_trying_all(rules, most), (rules, most))

    def test_by_trying_all_tables_of_four_classes(self):
        turned = ["pbpbp", "mbd", "fzd", "mmbdd", "ffzdd", "fffd", "sd", "ssd", "mbdbd"]
        reached = set()
        for number, walks in enumerate(itertools.permutations(turned, 3)):
            if number % 11 == 0:
                rules = [("never", "z"), ("may", walks[0]), ("never", walks[1]), ("never", walks[2])]
                found = lists_of(first_table(rules, 4))
                self.assertEqual(found, first_by_trying_all(rules, 4), rules)
                reached.add(None if found is None else len(found[0]))
        self.assertIn(4, reached)

    def test_somewhat_beyond_four_classes_and_below_one(self):
        # Six times on from class to class is once on: rings of five.
        rules = [("never", "z"), ("may", "pbpbpbpbpbp")]
        self.assertIsNone(first_table(rules, 4))
        self.check(rules, 5, [1, 2, 3, 4, 0], [0, 1, 2, 3, 4])
        self.check(rules, 6, [1, 2, 3, 4, 0], [0, 1, 2, 3, 4])
        self.assertIsNone(first_table([], 0))
        self.check([], 100, [0], [0])

    def test_the_answer_is_a_table(self):
        self.assertIsInstance(first_table([], 1), Table)
        self.assertIsInstance(first_table([("never", "z")], 4), Table)

    def test_walks_of_sixty_signs(self):
        self.check([("never", "b" * 59 + "z"), ("may", "fs" * 29 + "bp")], 4, [1, 0], [0, 1])


class NothingKeptTest(unittest.TestCase):

    def test_what_is_handed_in_stays(self):
        rules = [("may", "mbd"), ("never", "fzd")]
        table = ring()
        breach(table, rules)
        first_table(rules, 4)
        self.assertEqual(rules, [("may", "mbd"), ("never", "fzd")])
        self.assertEqual((table.wives(), table.heirs()), (RING_WIVES, RING_HEIRS))

    def test_what_is_handed_in_may_be_changed_later(self):
        rules = [("never", "z")]
        first = first_table(rules, 4)
        rules.append(("may", "z"))
        self.assertEqual(lists_of(first), ([1, 0], [0, 1]))
        self.assertIsNone(first_table(rules, 4))
        rules.clear()
        self.assertEqual(lists_of(first_table(rules, 4)), ([0], [0]))

    def test_each_answer_is_another_table(self):
        first = first_table([], 1)
        self.assertIsNot(first, first_table([], 1))
        first.wives().clear()
        self.assertEqual(lists_of(first), ([0], [0]))


if __name__ == "__main__":
    unittest.main()
