import itertools
import unittest

from fewestheld.books import Book
from fewestheld.counts import kind_count, kind_numbers, place_polynomials, yes_count, yes_polynomial
from fewestheld.errors import InvalidQuestion
from tests.samples import (again, answer_plainly, crossed_book, idle_book, kind_rows, one_place, parts, random_book,
                           read_plainly, set_book, twice, two_words)

MOST = 10 ** 9


def books():
    return ([twice(), again(), idle_book(), set_book(), two_words(), crossed_book(), one_place(yes=True)] +
            [random_book(seed, most_slots=3, most_places=5) for seed in range(12)] +
            [random_book(seed, words=("u", "v", "w"), most_slots=3) for seed in range(6)])


def rows_over(book, reads, names):
    """All rows of so many reads over so many names."""
    single = [(word, f"n{number}") for word in book.words for number in range(names)]
    return [list(row) for row in itertools.product(single, repeat=reads)]


def value(polynomial, names):
    return sum(coefficient * names ** power for power, coefficient in enumerate(polynomial))


def numbers_plainly(book, reads, names):
    """How many rows end at each place, by the numbers of names for each case."""
    found = {name: 0 for name in book.place_names}
    found[book.start] = 1
    for _ in range(reads):
        further = dict.fromkeys(found, 0)
        for place, _, case, goal, _ in book.rules:
            further[goal] += found[place] * (1 if case else names - book.slots(place))
        found = further
    return found


def falling(names, many):
    product = 1
    for number in range(many):
        product *= names - number
    return product


class TestPolynomials(unittest.TestCase):
    """Points 45 to 47."""

    def test_against_rows_counted_one_by_one(self):
        for book in books():
            most = 4 if len(book.words) == 1 else 3 if len(book.words) == 2 else 2
            for reads in range(most + 1):
                told = place_polynomials(book, reads)
                yes = yes_polynomial(book, reads)
                for names in range(5):
                    rows = rows_over(book, reads, names)
                    ends = [read_plainly(book, row)[0] for row in rows]
                    for name, polynomial in told:
                        self.assertEqual(value(polynomial, names), ends.count(name))
                    wanted = sum(book.says_yes(end) for end in ends)
                    self.assertEqual(value(yes, names), wanted)
                    self.assertEqual(yes_count(book, reads, names), wanted)

    def test_all_places_in_the_order_of_the_book(self):
        for book in books():
            for reads in (0, 1, 5):
                self.assertEqual([name for name, _ in place_polynomials(book, reads)], list(book.place_names))

    def test_no_reads(self):
        self.assertEqual(place_polynomials(idle_book(), 0), [("start", [1]), ("two", []), ("end", []), ("one", [])])
        self.assertEqual((yes_polynomial(idle_book(), 0), yes_polynomial(one_place(yes=True), 0)), ([], [1]))
        for names in (0, 1, MOST):
            self.assertEqual(yes_count(one_place(yes=True), 0, names), 1)
            self.assertEqual(yes_count(one_place(yes=False), 0, names), 0)

    def test_fewer_names_than_slots(self):
        book = set_book()
        for reads in range(6):
            for names in (0, 1):
                for name, polynomial in place_polynomials(book, reads):
                    if name in ("both", "hit"):
                        self.assertEqual(value(polynomial, names), 0)
        self.assertEqual([yes_count(book, 3, names) for names in range(4)], [0, 0, 4, 12])

    def test_the_last_coefficient_is_not_0(self):
        for book in books():
            for reads in range(8):
                for polynomial in [yes_polynomial(book, reads)] + [told for _, told in place_polynomials(book, reads)]:
                    self.assertIsInstance(polynomial, list)
                    self.assertTrue(not polynomial or polynomial[-1] != 0)
                    self.assertLessEqual(len(polynomial), reads + 1)
                    self.assertTrue(all(type(number) is int for number in polynomial))

    def test_the_polynomial_0(self):
        self.assertEqual(yes_polynomial(one_place(), 7), [])
        self.assertEqual(dict(place_polynomials(crossed_book(), 5))["far"], [])
        self.assertEqual(yes_polynomial(twice(), 1), [])
        self.assertEqual(yes_polynomial(twice(), 2), [0, 1])

    def test_all_rows(self):
        for book in books():
            for reads in range(6):
                whole = [0] * reads + [len(book.words) ** reads]
                ends = [polynomial for _, polynomial in place_polynomials(book, reads)]
                total = [sum(column) for column in itertools.zip_longest(*ends, fillvalue=0)]
                self.assertEqual(total, whole)

    def test_many_reads_and_names(self):
        for book in books():
            for names in (0, 1, 2, 7, MOST):
                wanted = numbers_plainly(book, 40, names)
                told = place_polynomials(book, 40)
                self.assertEqual({name: value(polynomial, names) for name, polynomial in told}, wanted)
                self.assertEqual(yes_count(book, 40, names),
                                 sum(many for name, many in wanted.items() if book.says_yes(name)))
        self.assertEqual(yes_count(one_place(yes=True), 40, MOST), MOST ** 40)

    def test_large_books(self):
        words = ("u", "v", "w")
        places = [("p0", 0, True)] + [(f"p{at}", min(at, 6), at % 3 == 0) for at in range(1, 60)]
        rules = []
        for at, (name, slots, _) in enumerate(places):
            for number, word in enumerate(words):
                for case in range(slots + 1):
                    goal = (at * 7 + number * 11 + case * 5 + 1) % 60 if case else min(at + 1, 59)
                    sources = list(range(1 if case else 0, slots + 1))
                    if places[goal][1] > len(sources):
                        goal = at
                    rules.append((name, word, case, places[goal][0], sources[:places[goal][1]]))
        book = Book(words=words, places=places, start="p0", rules=rules)
        for names in (3, 10 ** 6):
            wanted = sum(many for name, many in numbers_plainly(book, 40, names).items() if book.says_yes(name))
            self.assertEqual(yes_count(book, 40, names), wanted)
            self.assertEqual(sum(number * falling(names, many) for many, number in enumerate(kind_numbers(book, 40))),
                             wanted)


class TestKinds(unittest.TestCase):
    """Points 48 and 49."""

    def test_against_kinds_made_one_by_one(self):
        for book in books():
            for reads in range(7 if len(book.words) == 1 else 5 if len(book.words) == 2 else 4):
                wanted = [0] * (reads + 1)
                for row in kind_rows(book.words, reads):
                    wanted[len({name for _, name in row})] += answer_plainly(book, row)
                self.assertEqual(kind_numbers(book, reads), wanted)
                self.assertEqual(kind_count(book, reads), sum(wanted))

    def test_the_sum_of_point_49(self):
        for book in books():
            for reads in (0, 1, 2, 5, 13, 40):
                told = kind_numbers(book, reads)
                for names in (0, 1, 2, 3, 50, MOST):
                    self.assertEqual(sum(number * falling(names, many) for many, number in enumerate(told)),
                                     yes_count(book, reads, names))

    def test_a_number_for_each_number_of_names(self):
        self.assertEqual(kind_numbers(one_place(), 4), [0, 0, 0, 0, 0])
        self.assertEqual(kind_numbers(one_place(yes=True), 4), [0, 1, 7, 6, 1])
        self.assertEqual((kind_numbers(one_place(), 0), kind_numbers(one_place(yes=True), 0)), ([0], [1]))
        self.assertEqual((kind_count(one_place(), 0), kind_count(one_place(yes=True), 4)), (0, 15))
        for reads in range(41):
            self.assertEqual(len(kind_numbers(twice(), reads)), reads + 1)


class TestErrors(unittest.TestCase):
    """Point 50."""

    def test_numbers_of_reads(self):
        for question in (place_polynomials, yes_polynomial, kind_numbers, kind_count):
            for reads in (-1, 41, -40, 10 ** 9):
                self.assertRaises(InvalidQuestion, question, twice(), reads)
            for reads in (0, 40):
                question(twice(), reads)

    def test_numbers_of_names(self):
        for names in (-1, MOST + 1, -MOST):
            self.assertRaises(InvalidQuestion, yes_count, twice(), 3, names)
        for names in (0, MOST):
            yes_count(twice(), 3, names)

    def test_the_reads_come_first(self):
        # Both are the same error, so its text alone tells them apart.
        for reads in (-1, 41):
            for names in (-1, 3, MOST + 1):
                with self.assertRaisesRegex(InvalidQuestion, "reads"):
                    yes_count(twice(), reads, names)
        with self.assertRaisesRegex(InvalidQuestion, "names"):
            yes_count(twice(), 40, MOST + 1)

    def test_arguments_stay_and_lists_are_new(self):
        book = twice()
        before = parts(book)
        place_polynomials(book, 2)[0][1].append(5)
        place_polynomials(book, 2).clear()
        yes_polynomial(book, 2).clear()
        kind_numbers(book, 2).clear()
        self.assertEqual((yes_polynomial(book, 2), kind_numbers(book, 2)), ([0, 1], [0, 1, 0]))
        self.assertEqual(place_polynomials(book, 2), [("s", []), ("one", [0, -1, 1]), ("yes", [0, 1])])
        self.assertEqual(parts(book), before)


class TestExamples(unittest.TestCase):
    def test_the_example_of_the_interface(self):
        places = [("p", 0, False), ("q", 1, False), ("r", 0, True)]
        rules = [("p", "w", 0, "q", (0,)), ("q", "w", 0, "q", (1,)), ("q", "w", 1, "r", ()), ("r", "w", 0, "r", ())]
        book = Book(words=["w"], places=places, start="p", rules=rules)
        self.assertEqual((yes_polynomial(book, 2), yes_polynomial(book, 3)), ([0, 1], [0, -1, 2]))
        self.assertEqual((yes_count(book, 3, 10), kind_numbers(book, 3)), (190, [0, 1, 2, 0]))
