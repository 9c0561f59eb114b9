import copy
import unittest

from fewestheld.errors import InvalidQuestion, InvalidRow, TooMany, UnknownName
from fewestheld.runs import (answers, cases, kind_of, kinds_of_rows, names_of, renamed, run, same_kind, says, trace)
from tests.samples import answer_plainly, kind_rows, one_place, random_book, read_plainly, twice, two_words

NO_NAMES = ["", "A", "1", "abcdefghijklm", "a b", "a\n", "a_"]


class TestRuns(unittest.TestCase):
    """Points 15 to 17."""

    def test_the_empty_row(self):
        book = twice()
        self.assertEqual(run(book, []), ("s", ()))
        self.assertEqual(trace(book, []), [("s", ())])
        self.assertEqual(cases(book, []), [])
        self.assertEqual(answers(book, []), [False])
        self.assertIs(says(book, []), False)
        self.assertIs(says(book.turned(), []), True)

    def test_names_in_slots_and_new_names(self):
        book = twice()
        row = [("in", "bob"), ("in", "ann"), ("in", "ann"), ("in", "ann"), ("in", "bob")]
        self.assertEqual(trace(book, row), [("s", ()), ("one", ("bob",)), ("one", ("ann",)), ("yes", ("ann",)),
                                            ("yes", ("ann",)), ("one", ("bob",))])
        self.assertEqual(cases(book, row), [0, 0, 1, 1, 0])
        self.assertEqual(answers(book, row), [False, False, False, True, True, False])
        self.assertEqual(run(book, row), ("one", ("bob",)))
        self.assertIs(says(book, row[:4]), True)

    def test_moves_that_exchange_drop_and_take_up(self):
        book = two_words()
        row = [("put", "x"), ("put", "y"), ("put", "x"), ("ask", "z"), ("put", "z"), ("ask", "x"), ("ask", "z"),
               ("ask", "z"), ("put", "y")]
        held = [("zero", ()), ("one", ("x",)), ("two", ("y", "x")), ("two", ("y", "x")), ("two", ("x", "y")),
                ("two", ("z", "y")), ("two", ("y", "z")), ("one", ("y",)), ("one", ("y",)), ("one", ("y",))]
        self.assertEqual(trace(book, row), held)
        self.assertEqual(cases(book, row), [0, 0, 2, 0, 0, 0, 2, 0, 1])
        self.assertEqual(run(book, [("put", "x"), ("put", "y"), ("put", "y")]), ("two", ("x", "y")))

    def test_against_plain_reading(self):
        for seed in range(30):
            book = random_book(seed, words=("u", "v"))
            for row in kind_rows(book.words, 4)[::7]:
                self.assertEqual(run(book, row), read_plainly(book, row))
                self.assertEqual(says(book, row), answer_plainly(book, row))
                told = [read_plainly(book, row[:many]) for many in range(len(row) + 1)]
                self.assertEqual(trace(book, row), told)
                self.assertEqual(answers(book, row), [book.says_yes(place) for place, _ in told])
                for (_, held), (_, name), case in zip(told, row, cases(book, row)):
                    self.assertEqual(case, held.index(name) + 1 if name in held else 0)

    def test_unknown_words_come_first(self):
        for call in (run, trace, cases, answers, says):
            with self.assertRaises(UnknownName) as caught:
                call(twice(), [("in", "A"), ("on", "B"), ("off", "a")])
            self.assertEqual(caught.exception.name, "on")
            with self.assertRaises(UnknownName) as caught:
                call(twice(), [("in", "A"), ("", "b")])
            self.assertEqual(caught.exception.name, "")

    def test_what_is_no_name(self):
        for call in (run, trace, cases, answers, says):
            for name in NO_NAMES:
                with self.assertRaises(InvalidRow):
                    call(twice(), [("in", "a"), ("in", name), ("in", "b")])

    def test_arguments_stay_and_lists_are_new(self):
        row = [("in", "b"), ("in", "a"), ("in", "b")]
        before = copy.deepcopy(row)
        book = twice()
        for call in (run, trace, cases, answers, says):
            call(book, row)
        for call in (names_of, kind_of):
            call(row)
        renamed(row, {"a": "c"})
        same_kind(row, row)
        self.assertEqual(row, before)
        self.assertIsNot(kind_of([("in", "a1")]), row)
        self.assertIsNot(renamed(row, {}), row)
        first = kinds_of_rows(book, 2)
        first[0].append(1)
        self.assertEqual(len(kinds_of_rows(book, 2)[0]), 2)


class TestKinds(unittest.TestCase):
    """Point 18."""

    def test_names_of(self):
        self.assertEqual(names_of([]), [])
        self.assertEqual(names_of([("in", "c"), ("on", "a"), ("in", "c"), ("in", "b"), ("in", "a")]), ["c", "a", "b"])

    def test_kind_of(self):
        self.assertEqual(kind_of([]), [])
        row = [("in", "a2"), ("on", "a1"), ("in", "a2"), ("in", "x")]
        self.assertEqual(kind_of(row), [("in", "a1"), ("on", "a2"), ("in", "a1"), ("in", "a3")])
        row = [("in", f"x{number}") for number in range(12)]
        self.assertEqual(kind_of(row)[9:], [("in", "a10"), ("in", "a11"), ("in", "a12")])

    def test_same_kind(self):
        row = [("in", "a"), ("in", "b"), ("on", "a")]
        self.assertIs(same_kind(row, [("in", "b"), ("in", "a"), ("on", "b")]), True)
        self.assertIs(same_kind([], []), True)
        for other in ([("in", "a"), ("in", "b"), ("in", "a")], [("in", "a"), ("in", "b"), ("on", "b")], row[:2],
                      [("in", "a"), ("in", "a"), ("on", "a")], [("in", "a"), ("in", "b"), ("on", "c")], []):
            self.assertIs(same_kind(row, other), False)
            self.assertIs(same_kind(other, row), False)

    def test_what_is_no_name(self):
        for name in NO_NAMES:
            row = [("in", "a"), ("in", name)]
            for call in (lambda: names_of(row), lambda: kind_of(row), lambda: same_kind(row, []),
                         lambda: same_kind([], row), lambda: renamed(row, {}), lambda: renamed(row, {name: "b"})):
                with self.assertRaises(InvalidRow):
                    call()

    def test_renamed(self):
        row = [("in", "a"), ("on", "b"), ("in", "a")]
        self.assertEqual(renamed(row, {}), row)
        self.assertEqual(renamed(row, {"a": "c"}), [("in", "c"), ("on", "b"), ("in", "c")])
        self.assertEqual(renamed(row, {"a": "b", "b": "a"}), [("in", "b"), ("on", "a"), ("in", "b")])
        self.assertEqual(renamed(row, {"a": "b", "b": "c"}), [("in", "b"), ("on", "c"), ("in", "b")])
        self.assertEqual(renamed(row, {"x": "y", "in": "out"}), row)
        self.assertEqual(renamed(row, {"x": "a", "y": "a"}), row)
        self.assertEqual(renamed(row, {"b": "x", "x": "b"}), [("in", "a"), ("on", "x"), ("in", "a")])
        self.assertEqual(renamed([], {"a": "b"}), [])

    def test_two_names_that_become_one(self):
        row = [("in", "a"), ("on", "b"), ("in", "a")]
        for table in ({"a": "b"}, {"b": "a"}, {"a": "c", "b": "c"}, {"a": "A", "b": "A"}):
            with self.assertRaises(InvalidQuestion):
                renamed(row, table)

    def test_order_of_the_errors_of_renamed(self):
        row = [("in", "a"), ("on", "b"), ("in", "c")]
        for name in NO_NAMES:
            with self.assertRaises(InvalidRow):
                renamed(row, {"b": name})
            with self.assertRaises(InvalidQuestion):
                renamed(row, {"a": name, "b": "c"})
            with self.assertRaises(InvalidRow):
                renamed(row + [("in", name)], {"a": "b"})


class TestKindsOfRows(unittest.TestCase):
    def test_in_order(self):
        self.assertEqual(kinds_of_rows(twice(), 0), [[]])
        self.assertEqual(kinds_of_rows(twice(), 1), [[("in", "a1")]])
        told = [[number for _, number in row] for row in kinds_of_rows(twice(), 3)]
        self.assertEqual(told, [["a1", "a1", "a1"], ["a1", "a1", "a2"], ["a1", "a2", "a1"], ["a1", "a2", "a2"],
                                ["a1", "a2", "a3"]])
        self.assertEqual(kinds_of_rows(two_words(), 2)[:4], [[("put", "a1"), ("put", "a1")],
                         [("put", "a1"), ("put", "a2")], [("put", "a1"), ("ask", "a1")], [("put", "a1"), ("ask", "a2")]])
        for many in range(5):
            self.assertEqual(kinds_of_rows(two_words(), many), kind_rows(("put", "ask"), many))

    def test_each_is_the_row_of_its_kind(self):
        for row in kinds_of_rows(two_words(), 4):
            self.assertEqual(kind_of(row), row)

    def test_below_0(self):
        for many in (-1, -5):
            with self.assertRaises(InvalidQuestion):
                kinds_of_rows(twice(), many)
            with self.assertRaises(InvalidQuestion):
                kinds_of_rows(twice(), many, limit=0)

    def test_limits(self):
        for book, many, there in [(twice(), 0, 1), (twice(), 1, 1), (twice(), 3, 5), (twice(), 6, 203),
                                  (two_words(), 1, 2), (two_words(), 4, 240)]:
            self.assertEqual(len(kinds_of_rows(book, many, limit=there)), there)
            with self.assertRaises(TooMany) as caught:
                kinds_of_rows(book, many, limit=there - 1)
            self.assertEqual(caught.exception.limit, there - 1)

    def test_the_limit_that_is_not_told(self):
        self.assertEqual(len(kinds_of_rows(one_place(), 7)), 877)
        for many in (8, 40, 10 ** 9):
            with self.assertRaises(TooMany) as caught:
                kinds_of_rows(one_place(), many)
            self.assertEqual(caught.exception.limit, 2000)


class TestExamples(unittest.TestCase):
    def test_the_example_of_the_interface(self):
        row = [("in", "bob"), ("in", "ann"), ("in", "ann")]
        self.assertEqual((run(twice(), row), answers(twice(), row), kind_of(row)),
                         (("yes", ("ann",)), [False, False, False, True], [("in", "a1"), ("in", "a2"), ("in", "a2")]))
