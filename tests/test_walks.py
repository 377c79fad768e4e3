import itertools
import unittest

from kinturns.errors import NoClass, NoWalk, TooMany
from kinturns.tables import Table
from kinturns.walks import end_sex, parted, parts, shortest, turn_of, walked

LETTERS = "fmsdpbz"
SEXES = ["man", "woman"]
# Neither turn is its own way back, nor do the two agree in any class or in their order.
WIVES = [1, 2, 0, 3]
HEIRS = [2, 0, 3, 1]
NO_WALKS = ["x", "F", " ", "f m", "fm\n", "fm ", "\tfm", "mother", "1", "-", "\u00e9", "fmsdpbzu",
            "\u0444", "f\x00", "f" * 61, "fmsdpbz" * 9, "b" * 1000, "f" * 60 + "?", "?" * 61]


def made():
    return Table(WIVES, HEIRS)


def tables_of(many):
    turns = [list(turn) for turn in itertools.permutations(range(many))]
    return [(wives, heirs) for wives in turns for heirs in turns]


def one_step(wives, heirs, sex, c, letter):
    """One letter, by the words of point 2, found by a search through the bare lists."""
    classes = range(len(wives))
    father = [d for d in classes if heirs[d] == c][0]
    husband = c if sex == "man" else [d for d in classes if wives[d] == c][0]
    if letter in "fm":
        return ("man", father) if letter == "f" else ("woman", wives[father])
    if letter in "sd":
        return ("man" if letter == "s" else "woman", heirs[husband])
    if letter == "p":
        return ("woman", wives[c]) if sex == "man" else ("man", husband)
    return ("man" if letter == "b" else "woman", c)


def expected(wives, heirs, sex, c, walk):
    for letter in walk:
        sex, c = one_step(wives, heirs, sex, c, letter)
    return (sex, c)


def fewest_letters(wives, heirs, sex):
    """The fewest letters for each end that any walk has; an end is a sex and a turn."""
    start = (sex, tuple(range(len(wives))))
    fewest = {start: 0}
    ends = {start}
    for length in range(1, 61):
        later = set()
        for at, turn in ends:
            for letter in LETTERS:
                steps = [one_step(wives, heirs, at, c, letter) for c in turn]
                later.add((steps[0][0], tuple(c for _, c in steps)))
        ends = later - set(fewest)
        fewest.update((end, length) for end in ends)
    return fewest


class EndSexTest(unittest.TestCase):

    def test_each_letter(self):
        ends = {"f": "man", "m": "woman", "s": "man", "d": "woman", "b": "man", "z": "woman"}
        for letter, end in ends.items():
            for sex in SEXES:
                with self.subTest(letter=letter, sex=sex):
                    self.assertEqual(end_sex(sex, letter), end)

    def test_partner_is_of_the_other_sex(self):
        self.assertEqual(end_sex("man", "p"), "woman")
        self.assertEqual(end_sex("woman", "p"), "man")
        self.assertEqual(end_sex("man", "pp"), "man")
        self.assertEqual(end_sex("woman", "ppp"), "man")
        self.assertEqual(end_sex("woman", "mbp"), "woman")
        self.assertEqual(end_sex("man", "fzp"), "man")

    def test_no_letters(self):
        self.assertEqual(end_sex("man", ""), "man")
        self.assertEqual(end_sex("woman", ""), "woman")

    def test_sixty_letters(self):
        self.assertEqual(end_sex("man", "p" * 60), "man")
        self.assertEqual(end_sex("woman", "p" * 59), "man")
        self.assertEqual(end_sex("woman", "f" * 59 + "z"), "woman")

    def test_no_walk(self):
        for sex, walk in itertools.product(SEXES, NO_WALKS):
            with self.subTest(sex=sex, walk=walk):
                with self.assertRaises(NoWalk):
                    end_sex(sex, walk)


class WalkedTest(unittest.TestCase):

    def check(self, sex, walk, end, turn):
        for c in range(4):
            with self.subTest(sex=sex, walk=walk, c=c):
                self.assertEqual(walked(made(), sex, c, walk), (end, turn[c]))

    def test_each_letter_from_a_man(self):
        self.check("man", "f", "man", [1, 3, 0, 2])
        self.check("man", "m", "woman", [2, 3, 1, 0])
        self.check("man", "s", "man", [2, 0, 3, 1])
        self.check("man", "d", "woman", [2, 0, 3, 1])
        self.check("man", "p", "woman", [1, 2, 0, 3])
        self.check("man", "b", "man", [0, 1, 2, 3])
        self.check("man", "z", "woman", [0, 1, 2, 3])

    def test_each_letter_from_a_woman(self):
        self.check("woman", "f", "man", [1, 3, 0, 2])
        self.check("woman", "m", "woman", [2, 3, 1, 0])
        self.check("woman", "s", "man", [3, 2, 0, 1])
        self.check("woman", "d", "woman", [3, 2, 0, 1])
        self.check("woman", "p", "man", [2, 0, 1, 3])
        self.check("woman", "b", "man", [0, 1, 2, 3])
        self.check("woman", "z", "woman", [0, 1, 2, 3])

    def test_the_first_letter_is_walked_first(self):
        self.assertEqual(walked(made(), "man", 0, "fp"), ("woman", 2))
        self.assertEqual(walked(made(), "man", 0, "pf"), ("man", 3))

    def test_mothers_brothers_daughter(self):
        # Each marries his mother's brother's daughter: three classes in a ring.
        ring = Table([1, 2, 0], [0, 1, 2])
        for c in range(3):
            self.assertEqual(walked(ring, "man", c, "mbd"), ("woman", ring.wife_of(c)))
            self.assertNotEqual(walked(ring, "man", c, "fzd"), ("woman", ring.wife_of(c)))

    def test_no_letters(self):
        self.check("man", "", "man", [0, 1, 2, 3])
        self.check("woman", "", "woman", [0, 1, 2, 3])

    def test_the_answer_is_a_tuple(self):
        self.assertIsInstance(walked(made(), "man", 0, ""), tuple)
        self.assertIsInstance(walked(made(), "man", 0, "fm"), tuple)

    def test_all_walks_of_up_to_three_letters(self):
        for length in range(4):
            for letters in itertools.product(LETTERS, repeat=length):
                walk = "".join(letters)
                for sex, c in itertools.product(SEXES, range(4)):
                    self.assertEqual(walked(made(), sex, c, walk),
                                     expected(WIVES, HEIRS, sex, c, walk), (sex, c, walk))

    def test_sixty_letters(self):
        for walk in ("fmsdpbz" * 8 + "pmpd", "f" * 60, "m" * 60, "sd" * 30, "p" * 60):
            for sex, c in itertools.product(SEXES, range(4)):
                with self.subTest(sex=sex, c=c, walk=walk):
                    self.assertEqual(len(walk), 60)
                    self.assertEqual(walked(made(), sex, c, walk),
                                     expected(WIVES, HEIRS, sex, c, walk))

    def test_one_and_eight_classes(self):
        wives = [3, 0, 1, 2, 5, 6, 7, 4]
        heirs = [4, 6, 0, 1, 7, 5, 2, 3]
        for walk in ("", "p", "fmsdpbz", "mmbdd", "fpsdzm"):
            for sex in SEXES:
                with self.subTest(sex=sex, walk=walk):
                    self.assertEqual(walked(Table([0], [0]), sex, 0, walk), (end_sex(sex, walk), 0))
                    for c in range(8):
                        self.assertEqual(walked(Table(wives, heirs), sex, c, walk),
                                         expected(wives, heirs, sex, c, walk))

    def test_no_class(self):
        for walk in ["", "b", "z", "p", "f", "fmsd", "p" * 60]:
            for sex, c in itertools.product(SEXES, [-1, -4, 4, 5, 99]):
                with self.subTest(sex=sex, c=c, walk=walk):
                    with self.assertRaises(NoClass):
                        walked(made(), sex, c, walk)

    def test_no_walk_goes_ahead_of_no_class(self):
        for walk in NO_WALKS:
            for sex, c in itertools.product(SEXES, [0, 3, -1, 4]):
                with self.subTest(sex=sex, c=c, walk=walk):
                    with self.assertRaises(NoWalk):
                        walked(made(), sex, c, walk)


class TurnOfTest(unittest.TestCase):

    def test_turns(self):
        self.assertEqual(turn_of(made(), "man", ""), [0, 1, 2, 3])
        self.assertEqual(turn_of(made(), "man", "p"), [1, 2, 0, 3])
        self.assertEqual(turn_of(made(), "woman", "p"), [2, 0, 1, 3])
        self.assertEqual(turn_of(made(), "man", "s"), [2, 0, 3, 1])
        self.assertEqual(turn_of(made(), "woman", "s"), [3, 2, 0, 1])
        self.assertEqual(turn_of(made(), "woman", "ms"), [0, 1, 2, 3])
        self.assertEqual(turn_of(Table([0], [0]), "woman", "fmsd"), [0])

    def test_all_tables_of_three_classes(self):
        for wives, heirs in tables_of(3):
            for sex, walk in itertools.product(SEXES, ["", "p", "mbd", "fzd", "sp", "dpf", "mmbdd"]):
                with self.subTest(wives=wives, heirs=heirs, sex=sex, walk=walk):
                    self.assertEqual(turn_of(Table(wives, heirs), sex, walk),
                                     [expected(wives, heirs, sex, c, walk)[1] for c in range(3)])

    def test_eight_classes_and_sixty_letters(self):
        table = Table([1, 2, 3, 4, 5, 6, 7, 0], list(range(8)))
        # 30 times on by one class each leaves 6 classes on, after three rounds.
        self.assertEqual(turn_of(table, "man", "bp" * 30), [6, 7, 0, 1, 2, 3, 4, 5])

    def test_fresh_lists(self):
        table = made()
        for walk in ("", "b", "p", "f"):
            first = turn_of(table, "man", walk)
            kept = list(first)
            first.clear()
            self.assertEqual(turn_of(table, "man", walk), kept)
        self.assertEqual((table.wives(), table.heirs()), (WIVES, HEIRS))

    def test_no_walk(self):
        for sex, walk in itertools.product(SEXES, NO_WALKS):
            with self.subTest(sex=sex, walk=walk):
                with self.assertRaises(NoWalk):
                    turn_of(made(), sex, walk)


class PartedTest(unittest.TestCase):

    def test_alike(self):
        self.assertIsNone(parted(made(), "man", "", ""))
        self.assertIsNone(parted(made(), "man", "", "b"))
        self.assertIsNone(parted(made(), "woman", "", "z"))
        self.assertIsNone(parted(made(), "man", "fp", "m"))
        self.assertIsNone(parted(made(), "man", "ps", "s"))
        self.assertIsNone(parted(made(), "man", "p" * 60, "b" * 60))

    def test_two_sexes(self):
        self.assertEqual(parted(made(), "man", "", "z"), -1)
        self.assertEqual(parted(made(), "woman", "", "b"), -1)
        self.assertEqual(parted(made(), "man", "s", "d"), -1)
        self.assertEqual(parted(made(), "man", "f", "m"), -1)
        self.assertEqual(parted(Table([0], [0]), "woman", "p", ""), -1)

    def test_two_sexes_by_the_first_sex(self):
        self.assertIsNone(parted(Table([0], [0]), "man", "p", "z"))
        self.assertEqual(parted(Table([0], [0]), "woman", "p", "z"), -1)

    def test_the_least_class_that_parts(self):
        last_two = Table([0, 1, 3, 2], [0, 1, 2, 3])
        self.assertEqual(parted(last_two, "man", "z", "p"), 2)
        self.assertEqual(parted(last_two, "man", "p", "z"), 2)
        self.assertEqual(parted(last_two, "woman", "b", "p"), 2)
        first_two = Table([0, 1, 2, 3], [1, 0, 2, 3])
        self.assertEqual(parted(first_two, "man", "", "s"), 0)
        self.assertEqual(parted(Table([0, 2, 1], [0, 1, 2]), "man", "z", "p"), 1)
        eight = Table([0, 1, 2, 3, 4, 5, 7, 6], list(range(8)))
        self.assertEqual(parted(eight, "man", "p", "z"), 6)

    def test_alike_hangs_on_the_sex(self):
        table = Table([1, 2, 0], [0, 1, 2])
        self.assertIsNone(parted(table, "man", "s", "b"))
        self.assertEqual(parted(table, "woman", "s", "b"), 0)

    def test_by_the_turns(self):
        walks = ["", "f", "m", "s", "d", "p", "b", "z", "fz", "mbd", "fzd", "ssp", "ppd"]
        for wives, heirs in tables_of(3):
            table = Table(wives, heirs)
            for sex, one, other in itertools.product(SEXES, walks, walks):
                ends = [[expected(wives, heirs, sex, c, walk) for c in range(3)] for walk in (one, other)]
                unlike = [c for c in range(3) if ends[0][c] != ends[1][c]]
                answer = unlike[0] if unlike else None
                if ends[0][0][0] != ends[1][0][0]:
                    answer = -1
                self.assertEqual(parted(table, sex, one, other), answer, (wives, heirs, sex, one, other))

    def test_no_walk(self):
        for walk in NO_WALKS:
            for good in ("", "z", "f" * 60):
                for one, other in ((walk, good), (good, walk), (walk, walk)):
                    with self.subTest(one=one, other=other):
                        with self.assertRaises(NoWalk):
                            parted(made(), "man", one, other)


class PartsTest(unittest.TestCase):

    def test_one_part(self):
        self.assertEqual(parts(Table([0], [0])), [[0]])
        self.assertEqual(parts(made()), [[0, 1, 2, 3]])
        self.assertEqual(parts(Table([1, 0, 3, 2], [2, 3, 0, 1])), [[0, 1, 2, 3]])
        self.assertEqual(parts(Table([1, 2, 3, 4, 5, 6, 7, 0], list(range(8)))), [list(range(8))])
        self.assertEqual(parts(Table(list(range(8)), [7, 0, 1, 2, 3, 4, 5, 6])), [list(range(8))])

    def test_each_class_by_itself(self):
        self.assertEqual(parts(Table([0, 1, 2], [0, 1, 2])), [[0], [1], [2]])
        self.assertEqual(parts(Table(list(range(8)), list(range(8)))), [[c] for c in range(8)])

    def test_several_parts_by_their_least_classes(self):
        self.assertEqual(parts(Table([3, 1, 2, 0], [0, 2, 1, 3])), [[0, 3], [1, 2]])
        self.assertEqual(parts(Table([0, 1, 2, 3], [2, 1, 0, 3])), [[0, 2], [1], [3]])
        self.assertEqual(parts(Table([7, 1, 5, 3, 4, 2, 6, 0], [0, 6, 2, 3, 4, 5, 1, 7])),
                         [[0, 7], [1, 6], [2, 5], [3], [4]])

    def test_a_chain_that_goes_by_both_turns(self):
        table = Table([7, 6, 5, 4, 3, 2, 1, 0], [0, 7, 6, 5, 4, 3, 2, 1])
        self.assertEqual(parts(table), [list(range(8))])
        # 0-5 and 5-3 hang together by one turn each, so 0 and 3 do by both.
        self.assertEqual(parts(Table([5, 1, 2, 3, 4, 0], [0, 1, 2, 5, 4, 3])), [[0, 3, 5], [1], [2], [4]])

    def test_by_walks(self):
        for many in (1, 2, 3):
            for wives, heirs in tables_of(many):
                self.check_by_walks(wives, heirs)

    def check_by_walks(self, wives, heirs):
        many = len(wives)
        walks = ["".join(letters) for length in range(4) for letters in itertools.product("sdpbz", repeat=length)]
        answer = []
        for c in range(many):
            part = sorted({expected(wives, heirs, sex, c, walk)[1] for sex in SEXES for walk in walks})
            if part not in answer:
                answer.append(part)
        self.assertEqual(parts(Table(wives, heirs)), answer, (wives, heirs))

    def test_fresh_lists(self):
        table = Table([3, 1, 2, 0], [0, 2, 1, 3])
        first = parts(table)
        first[0].clear()
        first.pop()
        self.assertEqual(parts(table), [[0, 3], [1, 2]])
        self.assertEqual((table.wives(), table.heirs()), ([3, 1, 2, 0], [0, 2, 1, 3]))


class ShortestTest(unittest.TestCase):

    def check(self, wives, heirs, sex, walk, fewest):
        answer = shortest(Table(wives, heirs), sex, walk)
        said = (wives, heirs, sex, walk, answer)
        ends = [expected(wives, heirs, sex, c, walk) for c in range(len(wives))]
        self.assertEqual([expected(wives, heirs, sex, c, answer) for c in range(len(wives))], ends, said)
        end = (ends[0][0], tuple(c for _, c in ends))
        self.assertEqual(len(answer), fewest[end], said)
        self.assertEqual([sign for sign in answer if sign not in LETTERS], [], said)

    def test_no_letters_are_needed(self):
        for walk in ("", "b", "bb", "pp", "zb", "fs", "sf", "p" * 60, "b" * 60):
            with self.subTest(walk=walk):
                self.assertEqual(shortest(made(), "man", walk), "")
        for walk in ("", "z", "bz", "pp", "md", "dm"):
            with self.subTest(walk=walk):
                self.assertEqual(shortest(made(), "woman", walk), "")

    def test_one_letter_that_no_other_is_alike(self):
        self.assertEqual(shortest(made(), "man", "fp"), "m")
        self.assertEqual(shortest(made(), "man", "p"), "p")
        self.assertEqual(shortest(made(), "man", "sz"), "d")
        self.assertEqual(shortest(made(), "woman", "ps"), "s")

    def test_one_class(self):
        fewest = {("man", (0,)): 0, ("woman", (0,)): 1}
        for walk in ("", "p", "fm", "msdp", "f" * 60, "d" * 60):
            self.check([0], [0], "man", walk, fewest)

    def test_all_walks_of_three_letters_for_all_tables_of_up_to_three_classes(self):
        walks = ["".join(letters) for letters in itertools.product(LETTERS, repeat=3)]
        for many in (1, 2, 3):
            for wives, heirs in tables_of(many):
                for sex in SEXES:
                    fewest = fewest_letters(wives, heirs, sex)
                    for walk in walks[::5]:
                        self.check(wives, heirs, sex, walk, fewest)

    def test_long_walks_for_tables_of_four_classes(self):
        walks = ["fmsdpbz" * 8 + "pmpd", "fpfpsp" * 10, "sdm" * 20, "mmp" * 7, "pspspf" * 4 + "z"]
        for wives, heirs in tables_of(4)[::7]:
            for sex in SEXES:
                fewest = fewest_letters(wives, heirs, sex)
                for walk in walks:
                    self.check(wives, heirs, sex, walk, fewest)

    def test_every_end_of_a_table_of_four_classes(self):
        # Walks round by round, one for each end that any walk of this table has.
        for sex in SEXES:
            fewest = fewest_letters(WIVES, HEIRS, sex)
            told = {}
            for length in range(6):
                for letters in itertools.product("msp", repeat=length):
                    walk = "b" * (60 - length) + "".join(letters) if sex == "man" else "".join(letters)
                    ends = tuple(expected(WIVES, HEIRS, sex, c, walk) for c in range(4))
                    if ends not in told:
                        told[ends] = True
                        self.check(WIVES, HEIRS, sex, walk, fewest)
            self.assertGreater(len(told), 20)

    def test_too_many(self):
        for many in (5, 6, 7, 8):
            table = Table(list(range(many)), list(range(many)))
            for walk in ("", "b", "p", "f" * 60):
                with self.subTest(many=many, walk=walk):
                    with self.assertRaises(TooMany):
                        shortest(table, "man", walk)

    def test_four_classes_are_not_too_many(self):
        self.assertEqual(shortest(Table([0, 1, 2, 3], [0, 1, 2, 3]), "man", "fffs"), "")

    def test_no_walk_goes_ahead_of_too_many(self):
        for many in (1, 4, 5, 8):
            table = Table(list(range(many)), list(range(many)))
            for sex, walk in itertools.product(SEXES, NO_WALKS):
                with self.subTest(many=many, sex=sex, walk=walk):
                    with self.assertRaises(NoWalk):
                        shortest(table, sex, walk)


class NothingChangedTest(unittest.TestCase):

    def test_the_table_stays(self):
        table = made()
        end_sex("man", "fm")
        walked(table, "woman", 2, "fmsd")
        turn_of(table, "man", "pf")
        parted(table, "man", "f", "s")
        parts(table)
        shortest(table, "woman", "ffm")
        self.assertEqual((table.wives(), table.heirs()), (WIVES, HEIRS))
        self.assertEqual([table.husband_of(c) for c in range(4)], [2, 0, 1, 3])
        self.assertEqual([table.father_of(c) for c in range(4)], [1, 3, 0, 2])


if __name__ == "__main__":
    unittest.main()
