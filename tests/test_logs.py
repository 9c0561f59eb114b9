import copy
import itertools
import random
import unittest

from fewestheld.errors import InvalidRow, UnknownName
from fewestheld.logs import clashes, fewest_changes, is_right, wrong_rows
from tests.samples import again, answer_plainly, kind_rows, parts, random_book, twice, two_words

NO_NAMES = ["", "A", "1", "abcdefghijklm", "a b", "a\n"]


def drawn_log(seed, words=("in",), most=6):
    draw, log = random.Random(seed), []
    for _ in range(draw.randint(0, most)):
        row = [(draw.choice(words), draw.choice("xyz")) for _ in range(draw.randint(0, 2))]
        log.append((row, draw.random() < 0.5))
    return log


def same_kind_plainly(one, other):
    if [word for word, _ in one] != [word for word, _ in other]:
        return False
    table = set(zip([name for _, name in one], [name for _, name in other]))
    return len({a for a, _ in table}) == len({b for _, b in table}) == len(table)


class TestRight(unittest.TestCase):
    """Point 97."""

    def test_wrong_rows(self):
        log = [([], False), ([("in", "x")], True), ([("in", "x"), ("in", "x")], True),
               ([("in", "x"), ("in", "y")], False), ([("in", "x"), ("in", "x")], False), ([], True)]
        self.assertEqual(wrong_rows(twice(), log), [1, 4, 5])
        self.assertEqual(wrong_rows(twice().turned(), log), [0, 2, 3])
        self.assertIs(is_right(twice(), log), False)
        self.assertIs(is_right(twice(), [log[0], log[2], log[3]]), True)

    def test_no_entries(self):
        self.assertEqual(wrong_rows(twice(), []), [])
        self.assertIs(is_right(twice(), []), True)
        self.assertEqual((clashes([]), fewest_changes([])), ([], []))

    def test_against_plain_reading(self):
        for seed in range(60):
            book = random_book(seed, words=("u", "v"))
            log = drawn_log(seed, ("u", "v"))
            told = [at for at, (row, yes) in enumerate(log) if answer_plainly(book, row) != yes]
            self.assertEqual(wrong_rows(book, log), told)
            self.assertIs(is_right(book, log), told == [])

    def test_errors_row_by_row(self):
        good = ([("in", "x")], False)
        for call in (wrong_rows, is_right):
            with self.assertRaises(UnknownName) as caught:
                call(twice(), [good, ([("in", "A"), ("on", "x"), ("off", "x")], True), ([("up", "x")], True)])
            self.assertEqual(caught.exception.name, "on")
            for name in NO_NAMES:
                # A wrong name of an earlier row comes ahead of a strange word of a later one.
                self.assertRaises(InvalidRow, call, twice(), [good, ([("in", name)], True), ([("on", "x")], True)])
            # A row with which the book is not right does not end the search for errors.
            with self.assertRaises(UnknownName) as caught:
                call(twice(), [([], True), ([("in", "x")], True), ([("on", "A")], True), ([("in", "A")], True)])
            self.assertEqual(caught.exception.name, "on")


class TestClashes(unittest.TestCase):
    """Points 98 and 99."""

    def test_several_kinds(self):
        log = [([("in", "x"), ("in", "y")], True), ([("in", "x"), ("in", "x")], True),
               ([("in", "b"), ("in", "a")], False), ([("in", "y"), ("in", "y")], False), ([], True),
               ([("in", "q"), ("in", "x")], False), ([("on", "x"), ("in", "y")], False), ([], True)]
        self.assertEqual(clashes(log), [(0, 2), (0, 5), (1, 3)])
        self.assertEqual(fewest_changes(log), [0, 1])

    def test_the_same_row_twice(self):
        row = [("in", "x")]
        self.assertEqual(clashes([(row, True), (row, True)]), [])
        self.assertEqual(fewest_changes([(row, True), (row, True)]), [])
        self.assertEqual(clashes([(row, False), (row, False), (row, True)]), [(0, 2), (1, 2)])
        self.assertEqual(clashes([([], True), ([], False)]), [(0, 1)])

    def test_more_of_one_answer(self):
        one, two, three = ([[("in", name)] for name in "xyz"])
        self.assertEqual(fewest_changes([(one, True), (two, False), (three, True)]), [1])
        self.assertEqual(fewest_changes([(one, False), (two, False), (three, True)]), [2])
        self.assertEqual(fewest_changes([(one, False), (two, True)]), [1])
        self.assertEqual(fewest_changes([(one, True), (two, False)]), [0])
        self.assertEqual(fewest_changes([(one, False), (two, True), (three, False), (one, True)]), [1, 3])
        self.assertEqual(fewest_changes([(one, False)]), [])
        self.assertEqual(fewest_changes([(one, True)]), [])

    def test_ascending_over_kinds(self):
        rows = [[], [("in", "x")], [("in", "x"), ("in", "x")]]
        log = [(rows[2], True), (rows[1], True), (rows[0], False), (rows[0], True), (rows[1], False), (rows[2], False)]
        self.assertEqual(clashes(log), [(0, 5), (1, 4), (2, 3)])
        self.assertEqual(fewest_changes(log), [0, 1, 3])

    def test_against_all_pairs_and_all_changes(self):
        for seed in range(120):
            log = drawn_log(seed, ("u", "v") if seed % 3 == 0 else ("u",), most=8)
            pairs = [(one, other) for one, other in itertools.combinations(range(len(log)), 2)
                     if log[one][1] != log[other][1] and same_kind_plainly(log[one][0], log[other][0])]
            self.assertEqual(clashes(log), pairs)
            changes = fewest_changes(log)
            self.assertEqual(changes, sorted(set(changes)))
            self.assertEqual(self.changed(log, changes), [])
            for many in range(len(changes)):
                for fewer in itertools.combinations(range(len(log)), many):
                    self.assertNotEqual(self.changed(log, fewer), [])

    def changed(self, log, changes):
        return clashes([(row, yes != (at in changes)) for at, (row, yes) in enumerate(log)])

    def test_no_book_is_right_with_clashes(self):
        for seed in range(20):
            book = random_book(seed)
            log = [(row, answer_plainly(book, row)) for row in kind_rows(("in",), 3)]
            self.assertEqual(clashes(log), [])
            log.append((log[2][0], not log[2][1]))
            self.assertEqual(clashes(log), [(2, len(log) - 1)])
            self.assertIs(is_right(book, log), False)

    def test_words_are_not_looked_at(self):
        log = [([("", "x")], True), ([("", "y")], False), ([("On", "y")], False)]
        self.assertEqual((clashes(log), fewest_changes(log)), ([(0, 1)], [0]))

    def test_what_is_no_name(self):
        for call in (clashes, fewest_changes):
            for name in NO_NAMES:
                for at in range(3):
                    log = [([("in", "x")], True), ([("in", "x"), ("in", "y")], False)]
                    log.insert(at, ([("in", "x"), ("in", name)], True))
                    self.assertRaises(InvalidRow, call, log)

    def test_arguments_stay(self):
        log = [[[["in", "x"]], True], [[["in", "y"]], False]]
        before, book = copy.deepcopy(log), again()
        wrong_rows(book, log), is_right(book, log), clashes(log), fewest_changes(log)
        self.assertEqual(log, before)
        self.assertEqual(parts(book), parts(again()))
        clashes(log).clear()
        self.assertEqual(clashes(log), [(0, 1)])
        self.assertEqual(wrong_rows(two_words(), []), [])


class TestExamples(unittest.TestCase):
    def test_the_example_of_the_interface(self):
        log = [([("in", "ann"), ("in", "bob")], True), ([("in", "x"), ("in", "x")], True),
               ([("in", "b"), ("in", "a")], False)]
        self.assertEqual((clashes(log), fewest_changes(log)), ([(0, 2)], [0]))
