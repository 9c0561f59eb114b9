import copy
import unittest

from fewestheld.books import Book
from fewestheld.errors import InvalidQuestion, InvalidRow, UnknownName
from fewestheld.feeds import Feed, first_parting
from tests.samples import (again, answer_plainly, idle_book, kind_rows, one_place, parts, random_book, read_plainly,
                           twice, two_words)

NO_NAMES = ["", "A", "1", "abcdefghijklm", "a b", "a:b", "a\n", 7, None]


def books_of(many, words=("u", "v"), seed=0):
    return [(f"b{at}", random_book(seed + at, words=words)) for at in range(many)]


def swapped(book):
    """The book with its words in the other order."""
    return Book(words=book.words[::-1], places=book.places, start=book.start, rules=book.rules)


def state(feed, names):
    return (feed.count, [(feed.place(name), feed.held(name), feed.answer(name)) for name in names])


class TestCreated(unittest.TestCase):
    """Point 62."""

    def test_one_and_six_books(self):
        for many in range(1, 7):
            books = books_of(many)
            feed = Feed(books)
            self.assertEqual(feed.names, tuple(f"b{at}" for at in range(many)))
            self.assertEqual(feed.count, 0)
            self.assertEqual(state(feed, feed.names), (0, [("p0", (), book.says_yes("p0")) for _, book in books]))

    def test_the_order_of_the_names_is_kept(self):
        feed = Feed([("z", twice()), ("a", again()), ("m", idle_book())])
        self.assertEqual(feed.names, ("z", "a", "m"))
        self.assertEqual([name for name, _ in feed.answers()], ["z", "a", "m"])

    def test_none_and_seven_books(self):
        self.assertRaises(InvalidQuestion, Feed, [])
        self.assertRaises(InvalidQuestion, Feed, books_of(7))
        self.assertRaises(InvalidQuestion, Feed, books_of(12))

    def test_a_name_twice(self):
        self.assertRaises(InvalidQuestion, Feed, [("a", twice()), ("a", again())])
        self.assertRaises(InvalidQuestion, Feed, [("a", twice()), ("b", twice()), ("a", twice())])

    def test_one_book_under_several_names(self):
        book = twice()
        self.assertEqual(Feed([("a", book), ("b", book)]).names, ("a", "b"))

    def test_what_is_no_name(self):
        for name in NO_NAMES:
            self.assertRaises(InvalidQuestion, Feed, [(name, twice())])
            self.assertRaises(InvalidQuestion, Feed, [("a", twice()), (name, twice())])

    def test_unlike_words(self):
        for one, other in ((twice(), one_place("on")), (twice(), two_words()), (two_words(), swapped(two_words()))):
            self.assertRaises(InvalidQuestion, Feed, [("a", one), ("b", other)])
            self.assertRaises(InvalidQuestion, Feed, [("a", one), ("b", one), ("c", other)])
            self.assertRaises(InvalidQuestion, Feed, [("a", other), ("b", one)])

    def test_the_list_is_copied(self):
        books = [("a", twice()), ("b", again())]
        feed = Feed(books)
        books[0] = ("c", idle_book())
        books.append(("d", twice()))
        self.assertEqual(feed.names, ("a", "b"))
        feed.push("in", "x")
        self.assertEqual([feed.place("a"), feed.place("b")], ["one", "one"])


class TestRead(unittest.TestCase):
    """Point 63."""

    def test_read_by_read_and_all_at_once(self):
        for seed in range(12):
            books = books_of(3, seed=seed)
            for row in kind_rows(("u", "v"), 4)[::11]:
                slow, fast = Feed(books), Feed(books)
                for at, (word, name) in enumerate(row, 1):
                    self.assertIsNone(slow.push(word, name))
                    told = [read_plainly(book, row[:at]) + (answer_plainly(book, row[:at]),) for _, book in books]
                    self.assertEqual(state(slow, slow.names), (at, told))
                self.assertIsNone(fast.push_all(row))
                self.assertEqual(state(fast, fast.names), state(slow, slow.names))
                self.assertIsNone(fast.push_all([]))
                self.assertEqual(state(fast, fast.names), state(slow, slow.names))

    def test_rows_go_on_from_where_the_feed_stands(self):
        feed = Feed([("b", twice())])
        feed.push_all([("in", "x"), ["in", "y"]])
        feed.push_all((("in", "y"),))
        self.assertEqual(state(feed, ["b"]), (3, [("yes", ("y",), True)]))
        feed.push("in", "z")
        self.assertEqual(state(feed, ["b"]), (4, [("one", ("z",), False)]))

    def refuse(self, error, call, feed, *arguments):
        before = state(feed, feed.names)
        with self.assertRaises(error) as caught:
            call(feed, *arguments)
        self.assertEqual(state(feed, feed.names), before)
        return caught.exception

    def test_wrong_reads(self):
        feed = Feed([("a", twice()), ("b", again())])
        feed.push("in", "x")
        for word in ("on", "", "IN", "a"):
            self.assertEqual(self.refuse(UnknownName, Feed.push, feed, word, "x").name, word)
            self.assertEqual(self.refuse(UnknownName, Feed.push, feed, word, "A").name, word)
        for name in NO_NAMES:
            self.refuse(InvalidRow, Feed.push, feed, "in", name)

    def test_wrong_rows(self):
        feed = Feed([("a", twice()), ("b", again())])
        feed.push_all([("in", "x"), ("in", "y")])
        good = ("in", "x")
        for at in range(4):
            row = [good] * 3
            row.insert(at, ("on", "x"))
            self.assertEqual(self.refuse(UnknownName, Feed.push_all, feed, row).name, "on")
            for name in NO_NAMES:
                row[at] = ("in", name)
                self.refuse(InvalidRow, Feed.push_all, feed, row)
        # All words come ahead of all names.
        row = [("in", "A"), good, ("on", "x"), ("off", "B")]
        self.assertEqual(self.refuse(UnknownName, Feed.push_all, feed, row).name, "on")

    def test_books_that_are_not_there(self):
        feed = Feed([("a", twice()), ("b", again())])
        feed.push("in", "x")
        calls = [Feed.place, Feed.held, Feed.answer, lambda it, name: it.forgotten(name, [("in", "x")]),
                 lambda it, name: it.forgotten(name, [])]
        for call in calls:
            for name in ("c", "in", "", "A", "one"):
                self.assertEqual(self.refuse(UnknownName, call, feed, name).name, name)

    def test_forgotten(self):
        feed = Feed([("t", twice()), ("g", again())])
        row = [("in", "x"), ("in", "y"), ("in", "z"), ("in", "y"), ("in", "q")]
        feed.push_all(row)
        self.assertEqual((feed.held("t"), feed.held("g")), (("q",), ("x",)))
        self.assertEqual(feed.forgotten("t", row), ["x", "y", "z"])
        self.assertEqual(feed.forgotten("g", row), ["y", "z", "q"])
        self.assertEqual(feed.forgotten("t", row[::-1]), ["y", "z", "x"])
        self.assertEqual(feed.forgotten("t", []), [])
        self.assertEqual(feed.forgotten("t", [("in", "q"), ("in", "q")]), [])

    def test_forgotten_looks_at_nothing_else(self):
        feed = Feed([("t", twice())])
        feed.push("in", "x")
        row = [("on", "never"), ("", "A"), ("in", "x"), ("on", "x"), ("in", "never"), ("in", "")]
        self.assertEqual(feed.forgotten("t", row), ["never", "A", ""])
        self.assertEqual(state(feed, ["t"]), (1, [("one", ("x",), False)]))

    def test_copied(self):
        feed = Feed([("t", twice()), ("g", again())])
        feed.push_all([("in", "x"), ("in", "y")])
        other = feed.copied()
        self.assertIsInstance(other, Feed)
        self.assertIsNot(other, feed)
        self.assertEqual(other.names, feed.names)
        here = state(feed, feed.names)
        self.assertEqual(state(other, other.names), here)
        other.push("in", "y")
        self.assertEqual(state(feed, feed.names), here)
        there = state(other, other.names)
        self.assertEqual(there, (3, [("yes", ("y",), True), ("one", ("x",), False)]))
        feed.push_all([("in", "x"), ("in", "x")])
        self.assertEqual(state(other, other.names), there)
        feed.reset()
        self.assertEqual(state(other, other.names), there)
        third = other.copied()
        other.reset()
        self.assertEqual(state(third, third.names), there)

    def test_reset(self):
        feed = Feed([("t", twice()), ("g", again())])
        start = state(feed, feed.names)
        self.assertIsNone(feed.reset())
        self.assertEqual(state(feed, feed.names), start)
        feed.push_all([("in", "x"), ("in", "x")])
        self.assertIsNone(feed.reset())
        self.assertEqual(state(feed, feed.names), start)
        feed.push("in", "z")
        self.assertEqual(feed.held("t"), ("z",))

    def test_the_row_stays(self):
        feed = Feed([("t", twice())])
        row = [["in", "x"], ["in", "x"]]
        before = copy.deepcopy(row)
        feed.push_all(row)
        feed.forgotten("t", row)
        first_parting([("t", twice())], row)
        self.assertEqual(row, before)
        row[0][1] = "z"
        self.assertEqual(feed.held("t"), ("x",))

    def test_lists_are_new_ones(self):
        books = [("t", twice()), ("g", again().turned())]
        feed = Feed(books)
        feed.answers().clear()
        feed.split()[0].clear()
        feed.forgotten("t", [("in", "x")]).clear()
        self.assertEqual(feed.answers(), [("t", False), ("g", True)])
        self.assertEqual(feed.split(), (["g"], ["t"]))
        self.assertEqual(feed.forgotten("t", [("in", "x")]), ["x"])
        self.assertEqual([parts(book) for _, book in books], [parts(twice()), parts(again().turned())])


class TestParted(unittest.TestCase):
    """Point 64."""

    def test_answers_and_split(self):
        books = [("d", twice()), ("c", twice().turned()), ("b", again()), ("a", again().turned())]
        feed = Feed(books)
        self.assertEqual(feed.answers(), [("d", False), ("c", True), ("b", False), ("a", True)])
        self.assertEqual(feed.split(), (["c", "a"], ["d", "b"]))
        feed.push_all([("in", "x"), ("in", "x")])
        self.assertEqual(feed.answers(), [("d", True), ("c", False), ("b", True), ("a", False)])
        self.assertEqual(feed.split(), (["d", "b"], ["c", "a"]))
        self.assertEqual(Feed(books[:1]).split(), ([], ["d"]))
        self.assertEqual(Feed(books[1:2]).split(), (["c"], []))

    def test_first_parting(self):
        row = [("in", "x"), ("in", "y"), ("in", "x"), ("in", "x")]
        books = [("t", twice()), ("g", again())]
        self.assertEqual(first_parting([("t", twice()), ("u", twice().turned())], row), 0)
        self.assertEqual(first_parting([("t", twice()), ("u", twice().turned())], []), 0)
        self.assertEqual(first_parting(books, row), 3)
        self.assertEqual(first_parting(books, row[:3]), 3)
        self.assertIsNone(first_parting(books, row[:2]))
        self.assertIsNone(first_parting(books, []))
        self.assertIsNone(first_parting([("t", twice())], row))
        self.assertIsNone(first_parting([("t", twice()), ("u", twice())], row))
        self.assertEqual(first_parting([("t", twice()), ("u", twice()), ("g", again())], row), 3)

    def test_against_plain_reading(self):
        for seed in range(30):
            books = books_of(3, words=("in",), seed=seed)
            for row in kind_rows(("in",), 5)[::5]:
                told = [len({answer_plainly(book, row[:at]) for _, book in books}) for at in range(6)]
                self.assertEqual(first_parting(books, row), told.index(2) if 2 in told else None)

    def test_reads_that_are_not_come_to(self):
        row = [("in", "x"), ("in", "y"), ("in", "x")]
        books = [("t", twice()), ("g", again())]
        for wrong in (("on", "x"), ("in", "A"), ("on", "A")):
            self.assertEqual(first_parting(books, row + [wrong]), 3)
            self.assertEqual(first_parting([("t", twice()), ("u", twice().turned())], [wrong]), 0)

    def test_reads_that_are_come_to(self):
        row = [("in", "x"), ("in", "y")]
        books = [("t", twice()), ("g", again())]
        for at in range(3):
            with self.assertRaises(UnknownName) as caught:
                first_parting(books, row[:at] + [("on", "A")] + row[at:])
            self.assertEqual(caught.exception.name, "on")
            # A later word is not come to if an earlier name is none.
            self.assertRaises(InvalidRow, first_parting, books, row[:at] + [("in", "A"), ("on", "x")])
        self.assertRaises(InvalidRow, first_parting, [("t", twice())], [("in", "A")])

    def test_wrong_books(self):
        for books in ([], books_of(7), [("a", twice()), ("a", twice())], [("A", twice())],
                      [("a", twice()), ("b", two_words())]):
            self.assertRaises(InvalidQuestion, first_parting, books, [("on", "A")])
