import unittest

from fewestheld.alike import alike
from fewestheld.books import Book
from fewestheld.compared import first_row, first_rows, is_within, relation, widest
from fewestheld.errors import InvalidQuestion, TooMany
from fewestheld.joined import joined
from fewestheld.matchings import reached
from tests.samples import (again, answer_plainly, crossed_book, doubled, idle_book, kind_rows, one_place, parts,
                           random_book, read_plainly, set_book, twice, two_words)

WAYS = [(False, False), (False, True), (True, False), (True, True)]
ALL = 20000


def couples():
    books = [twice(), again(), again((0,)), idle_book(), set_book(), crossed_book(), one_place(), one_place(yes=True)]
    found = [(one, other) for one in books for other in books]
    found += [(random_book(seed), random_book(seed + 1)) for seed in range(60)]
    drawn = [random_book(seed, words=("v", "u")) for seed in range(41)]
    return found + list(zip(drawn, drawn[1:]))


def rows_of(book):
    """The rows of all kinds up to some length, in the order of point 78."""
    return [row for many in range(7 if len(book.words) == 1 else 5) for row in kind_rows(book.words, many)]


def looked_at(one, other, rows):
    """The way and the triple of each row, read one by one."""
    found = []
    for row in rows:
        place, held = read_plainly(one, row)
        opposite, other_held = read_plainly(other, row)
        pairs = tuple((held.index(name) + 1, other_held.index(name) + 1) for name in held if name in other_held)
        found.append(((one.says_yes(place), other.says_yes(opposite)), (place, opposite, pairs)))
    return found


class Base(unittest.TestCase):
    def too_many(self, limit, call, *arguments):
        with self.assertRaises(TooMany) as caught:
            call(*arguments, limit=limit)
        self.assertEqual(caught.exception.limit, limit)


class TestFirstRows(Base):
    """Points 78 and 79."""

    def test_against_rows_one_by_one(self):
        for one, other in couples():
            rows = rows_of(one)
            ways = [way for way, _ in looked_at(one, other, rows)]
            for way in WAYS:
                found = first_row(one, other, way)
                if way in ways:
                    self.assertEqual(found, rows[ways.index(way)])
                elif found is not None:
                    self.assertGreater(len(found), len(rows[-1]))
                    self.assertEqual((answer_plainly(one, found), answer_plainly(other, found)), way)
                else:
                    # There is none if all triples are come to by the rows, or by longer ones.
                    places = reached(one, other, (one.start, other.start, ()))
                    self.assertFalse([1 for place, opposite, _ in places
                                      if (one.says_yes(place), other.says_yes(opposite)) == way])

    def test_first_rows(self):
        for one, other in couples():
            found = first_rows(one, other)
            self.assertEqual(found, [(way, first_row(one, other, way)) for way in WAYS])
            self.assertEqual([way for way, _ in found], WAYS)

    def test_kinds_of_values(self):
        for way in ((True, False), [True, False]):
            self.assertIsNone(first_row(twice(), again((0,)), way))
        for way in ((False, True), [False, True]):
            row = first_row(twice(), again(), way)
            self.assertEqual(row, [("in", "a1"), ("in", "a1"), ("in", "a2")])
            self.assertTrue(all(isinstance(read, tuple) for read in row))
        self.assertEqual(first_row(twice(), again(), [False, False]), [])

    def test_words_in_the_order_of_the_books(self):
        rules = [("s", "a", 0, "t", ()), ("s", "b", 0, "t", ()), ("t", "a", 0, "t", ()), ("t", "b", 0, "t", ())]
        for words in ("ab", "ba"):
            book = Book(words=list(words), places=[("s", 0, False), ("t", 0, True)], start="s", rules=rules)
            self.assertEqual(first_row(book, book, (True, True)), [(words[0], "a1")])

    def test_limits_against_rows_one_by_one(self):
        for one, other in couples():
            rows = rows_of(one)
            looks = looked_at(one, other, rows)
            for way in WAYS:
                ways = [told for told, _ in looks]
                if way not in ways:
                    continue
                at = ways.index(way)
                counted = len({triple for _, triple in looks[:at]})
                self.assertEqual(first_row(one, other, way, limit=max(counted, 1)), rows[at])
                for limit in {1, counted - 1, counted // 2}:
                    if 1 <= limit < counted:
                        self.too_many(limit, first_row, one, other, way)

    def test_limits_where_there_is_no_row(self):
        for one, other in couples():
            many = len(reached(one, other, (one.start, other.start, ())))
            for way, row in first_rows(one, other):
                if row is None:
                    self.assertIsNone(first_row(one, other, way, limit=many))
                    if many > 1:
                        self.too_many(many - 1, first_row, one, other, way)
                        self.too_many(many - 1, first_rows, one, other)

    def test_limits_of_first_rows(self):
        for one, other in couples():
            limit = 1
            while True:
                try:
                    wanted = [(way, first_row(one, other, way, limit=limit)) for way in WAYS]
                except TooMany:
                    self.too_many(limit, first_rows, one, other)
                else:
                    self.assertEqual(first_rows(one, other, limit=limit), wanted)
                    break
                limit += 1

    def test_the_triple_of_the_row_that_is_told_is_not_counted(self):
        book = again()
        self.assertEqual(first_row(book, book, (False, False), limit=1), [])
        self.assertEqual(first_row(book, book, (True, True), limit=2), [("in", "a1"), ("in", "a1")])
        self.too_many(1, first_row, book, book, (True, True))
        self.assertIsNone(first_row(book, book, (True, False), limit=3))
        self.too_many(2, first_row, book, book, (True, False))

    def test_unlike_words(self):
        book = two_words()
        turned = Book(words=book.words[::-1], places=book.places, start=book.start, rules=book.rules)
        for one, other in ((twice(), book), (book, turned), (twice(), one_place("on"))):
            for way in WAYS:
                self.assertRaises(InvalidQuestion, first_row, one, other, way)
                self.assertRaises(InvalidQuestion, first_row, one, other, way, limit=1)
            for call in (first_rows, is_within, relation):
                self.assertRaises(InvalidQuestion, call, one, other)
                self.assertRaises(InvalidQuestion, call, one, other, limit=1)

    def test_arguments_stay(self):
        way, book = [True, True], again()
        first_row(book, book, way).clear()
        first_rows(book, book).clear()
        self.assertEqual(way, [True, True])
        self.assertEqual(parts(book), parts(again()))
        self.assertEqual(first_row(book, book, way), [("in", "a1"), ("in", "a1")])


class TestRelation(Base):
    """Point 80."""

    def test_within_both_ways(self):
        for one, other in couples():
            inside = not any(answer_plainly(one, row) and not answer_plainly(other, row) for row in rows_of(one))
            if not inside:
                self.assertIs(is_within(one, other), False)
            self.assertEqual(is_within(one, other), first_row(one, other, (True, False)) is None)
            self.assertEqual(is_within(other, one), first_row(one, other, (False, True)) is None)
        self.assertIs(is_within(again((0,)), twice().turned()), False)
        self.assertIs(is_within(one_place(), twice()), True)
        self.assertIs(is_within(twice(), one_place()), False)

    def test_each_word(self):
        none, every = one_place(), one_place(yes=True)
        self.assertEqual(relation(again(), doubled(again(), 1)), "alike")
        self.assertEqual(relation(none, none), "alike")
        self.assertEqual(relation(none, twice()), "within")
        self.assertEqual(relation(twice(), none), "around")
        self.assertEqual(relation(twice(), every), "within")
        self.assertEqual(relation(every, twice()), "around")
        self.assertEqual(relation(twice(), twice().turned()), "apart")
        self.assertEqual(relation(twice(), idle_book()), "across")
        self.assertEqual(relation(none, every), "within")

    def test_against_the_rows_of_the_ways(self):
        words = set()
        for one, other in couples():
            rows = dict(first_rows(one, other))
            inside, outside = rows[(True, False)] is None, rows[(False, True)] is None
            wanted = ("alike" if inside and outside else "within" if inside else "around" if outside
                      else "apart" if rows[(True, True)] is None else "across")
            self.assertEqual(relation(one, other), wanted)
            self.assertEqual(relation(one, other) == "alike", alike(one, other))
            words.add(wanted)
        self.assertEqual(words, {"alike", "within", "around", "apart", "across"})

    def test_too_many_is_passed_on(self):
        for one, other in couples():
            for limit in (1, 2, 3, 5, 8):
                self.check_limit(one, other, limit)

    def check_limit(self, one, other, limit):
        """The searches of point 82, in their order, as far as they are made."""
        try:
            inside = first_row(one, other, (True, False), limit=limit) is None
            outside = first_row(one, other, (False, True), limit=limit) is None
            if not inside and not outside:
                first_row(one, other, (True, True), limit=limit)
        except TooMany:
            self.too_many(limit, relation, one, other)
        else:
            self.assertEqual(relation(one, other, limit=limit), relation(one, other))
        try:
            first_row(one, other, (True, False), limit=limit)
        except TooMany:
            self.too_many(limit, is_within, one, other)
        else:
            self.assertEqual(is_within(one, other, limit=limit), is_within(one, other))


class TestWidest(Base):
    """Points 81 and 82."""

    def test_no_book_and_one(self):
        self.assertIsNone(widest([]))
        self.assertEqual(widest([one_place()]), 0)
        self.assertEqual(widest([two_words()]), 0)

    def test_several(self):
        none, every = one_place(), one_place(yes=True)
        self.assertEqual(widest([none, twice(), every]), 2)
        self.assertEqual(widest([none, every, twice()]), 1)
        self.assertEqual(widest([every, none, every]), 0)
        self.assertEqual(widest([none, twice(), doubled(twice(), 1), none]), 1)
        self.assertEqual(widest([none, doubled(twice(), 1), twice(), none]), 1)
        self.assertEqual(widest([twice(), twice()]), 0)
        self.assertIsNone(widest([twice(), twice().turned()]))
        self.assertIsNone(widest([none, idle_book(), twice()]))
        self.assertEqual(widest([none, idle_book(), twice(), joined(idle_book(), twice(), "or")]), 3)
        self.assertEqual(widest((none, every)), 1)

    def test_against_each_book(self):
        for seed in range(60):
            books = [random_book(seed + at, most_places=3) for at in range(3)]
            books += [joined(books[0], books[1], "or")] if seed % 2 else []
            told = [at for at, book in enumerate(books) if all(is_within(one, book) for one in books)]
            self.assertEqual(widest(books), told[0] if told else None)

    def test_unlike_words_come_first(self):
        book = two_words()
        turned = Book(words=book.words[::-1], places=book.places, start=book.start, rules=book.rules)
        for wrong in ([twice(), book], [book, turned], [book, book, turned], [twice(), again(), one_place("on")]):
            self.assertRaises(InvalidQuestion, widest, wrong)
            self.assertRaises(InvalidQuestion, widest, wrong, limit=1)
        # Also behind two books of which neither is the widest one.
        self.assertRaises(InvalidQuestion, widest, [again(), again().turned(), book])

    def test_too_many_is_passed_on(self):
        book, same = again(), doubled(again(), 1)
        many = max(len(reached(book, same, (book.start, same.start, ()))),
                   len(reached(same, book, (same.start, book.start, ()))))
        self.assertEqual(widest([book, same], limit=many), 0)
        self.too_many(2, widest, [book, same])

    def test_looked_at_up_to_the_first_that_is_not_within(self):
        rules = [("s", "in", 0, "t", ()), ("t", "in", 0, "t", ())]
        one = Book(words=["in"], places=[("s", 0, True), ("t", 0, False)], start="s", rules=rules)
        # The third book is not looked at for the first two, as neither of these is within the other one.
        self.too_many(1, is_within, again(), one)
        self.too_many(1, is_within, again(), one.turned())
        self.assertIsNone(widest([one, one.turned(), again()], limit=1))

    def test_the_list_stays(self):
        books = [twice(), again()]
        before = list(books)
        widest(books)
        self.assertEqual(books, before)


class TestExamples(unittest.TestCase):
    def test_the_examples_of_the_interface(self):
        rules = [("a", "in", 0, "b", [0]), ("b", "in", 1, "b", [1]), ("b", "in", 0, "a", [])]
        one = Book(words=["in"], places=[("a", 0, False), ("b", 1, True)], start="a", rules=rules)
        other = one.with_answer("a", True)
        self.assertEqual((relation(one, other), relation(one, one.turned())), ("within", "apart"))
        self.assertEqual((first_row(one, other, (False, True)), first_row(one, other, (True, True)),
                          first_row(one, other, (True, False))), ([], [("in", "a1")], None))
        self.assertEqual(first_row(one, one, (True, True), limit=1), [("in", "a1")])
