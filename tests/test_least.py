import itertools
import unittest
from collections import Counter

from fewestheld.alike import alike
from fewestheld.books import Book
from fewestheld.errors import TooMany
from fewestheld.idle import reached_places
from fewestheld.least import is_least, least, place_map
from tests.samples import (again, alike_plainly, all_there_are, answer_plainly, crossed_book, doubled, idle_book,
                           kept_plainly, kind_rows, one_place, parts, random_book, read_plainly, reached_plainly,
                           set_book, small_book, twice, two_words)


def books():
    found = [small_book(), twice(), again(), idle_book(), two_words(), set_book(), crossed_book(), one_place()]
    found += [random_book(seed) for seed in range(40)]
    found += [random_book(seed, words=("u", "v"), most_places=5) for seed in range(20)]
    return found + [doubled(book, seed) for seed, book in enumerate(found[:20])]


def classes_plainly(book):
    """The classes of reached places that are one, each a list in the order of first coming (point 40)."""
    good = alike_plainly(book, book)
    kept = {name: kept_plainly(book, name, good) for name in reached_places(book)}
    classes = []
    for name in kept:
        for found in classes:
            first = found[0]
            if len(kept[first]) == len(kept[name]) and any(
                    (first, name, tuple(zip(kept[first], order))) in good
                    for order in itertools.permutations(kept[name])):
                found.append(name)
                break
        else:
            classes.append([name])
    return classes, kept


def sizes(book):
    """How many places a book has with each number of slots."""
    return Counter(slots for _, slots, _ in book.places)


class TestLeast(unittest.TestCase):
    """Points 40 and 41."""

    def test_a_place_for_each_class_in_order_with_its_answer(self):
        for book in books():
            classes, kept = classes_plainly(book)
            wanted = tuple((f"p{number}", len(kept[found[0]]), book.says_yes(found[0]))
                           for number, found in enumerate(classes, 1))
            told = least(book)
            self.assertEqual(told.places, wanted)
            self.assertEqual((told.words, told.start), (book.words, "p1"))

    def test_it_is_alike(self):
        for book in books():
            told = least(book)
            self.assertTrue(alike(book, told))
            for row in kind_rows(book.words, 5 if len(book.words) == 1 else 3):
                self.assertIs(answer_plainly(told, row), answer_plainly(book, row))

    def test_its_least_book_is_as_large(self):
        for book in books():
            once = least(book)
            self.assertEqual(least(once).places, once.places)

    def test_places_that_are_one_under_a_crossed_matching(self):
        told = least(crossed_book())
        self.assertEqual(told.places, (("p1", 0, False), ("p2", 1, False), ("p3", 2, False), ("p4", 0, True)))
        self.assertEqual(place_map(crossed_book()),
                         [("far", None, ()), ("cross", "p3", (2, 1)), ("s", "p1", ()), ("one", "p2", (1,)),
                          ("pair", "p3", (1, 2)), ("end", "p4", ())])
        self.assertEqual(told.rule("p3", "in", 2), ("p3", (1, 2)))

    def test_places_with_unlike_answers_or_numbers_of_slots_are_not_one(self):
        self.assertEqual(len(least(set_book()).places), 4)
        self.assertEqual(len(least(twice()).places), 3)
        self.assertEqual(least(one_place("w", True)).places, (("p1", 0, True),))

    def test_a_book_that_never_says_yes(self):
        book = two_words().with_answer("one", False)
        self.assertEqual(least(book).places, (("p1", 0, False),))
        self.assertEqual(least(book).rules, (("p1", "put", 0, "p1", ()), ("p1", "ask", 0, "p1", ())))
        self.assertEqual(place_map(book), [("zero", "p1", ()), ("one", "p1", ()), ("two", "p1", ())])

    def test_the_order_of_first_coming_and_not_of_the_book(self):
        places = [("z", 0, True), ("y", 0, False), ("x", 0, True), ("w", 0, False)]
        rules = [("y", "b", 0, "x", ()), ("y", "a", 0, "w", ()), ("x", "b", 0, "x", ()), ("x", "a", 0, "x", ()),
                 ("w", "b", 0, "z", ()), ("w", "a", 0, "w", ()), ("z", "b", 0, "y", ()), ("z", "a", 0, "z", ())]
        book = Book(words=["b", "a"], places=places, start="y", rules=rules)
        self.assertEqual([(name, stands) for name, stands, _ in place_map(book)],
                         [("z", "p4"), ("y", "p1"), ("x", "p2"), ("w", "p3")])
        other = Book(words=["a", "b"], places=places, start="y", rules=rules)
        self.assertEqual([(name, stands) for name, stands, _ in place_map(other)],
                         [("z", "p4"), ("y", "p1"), ("x", "p3"), ("w", "p2")])


class TestPlaceMap(unittest.TestCase):
    """Point 42."""

    def test_a_tuple_for_each_place_in_order(self):
        for book in books():
            classes, kept = classes_plainly(book)
            number = {name: at for at, found in enumerate(classes, 1) for name in found}
            there = reached_plainly(book)
            for place, (name, stands, slots) in zip(book.places, place_map(book), strict=True):
                self.assertEqual(name, place[0])
                if name in there:
                    self.assertEqual(stands, f"p{number[name]}")
                    self.assertEqual(tuple(sorted(slots)), kept[name])
                else:
                    self.assertEqual((stands, slots), (None, ()))

    def test_the_least_book_behind_rows(self):
        for book in books():
            told = least(book)
            table = {name: (stands, slots) for name, stands, slots in place_map(book)}
            turns = self.symmetries_plainly(told)
            for row in kind_rows(book.words, 5 if len(book.words) == 1 else 3):
                place, held = read_plainly(book, row)
                stands, slots = table[place]
                now, names = read_plainly(told, row)
                self.assertEqual(now, stands)
                in_order = [held[slot - 1] for slot in slots]
                orders = [[in_order[at - 1] for _, at in pairs] for pairs in turns[now]]
                self.assertIn(list(names), orders)

    def symmetries_plainly(self, book):
        good = alike_plainly(book, book)
        return {name: [pairs for one, other, pairs in good if one == other == name and len(pairs) == slots]
                for name, slots, _ in book.places}

    def test_symmetries_put_the_names_in_another_order(self):
        # The slots of both places may be exchanged, so the names are held as a set.
        book = set_book()
        row = [("in", "ann"), ("in", "bob"), ("in", "ann")]
        names = read_plainly(least(book), row)[1]
        self.assertEqual(sorted(names), ["ann", "bob"])

    def test_a_new_list(self):
        place_map(twice()).clear()
        self.assertEqual(len(place_map(twice())), 3)


class TestIsLeast(unittest.TestCase):
    """Point 43."""

    def test_least_books(self):
        for book in books():
            self.assertIs(is_least(least(book)), True)
            self.assertIs(is_least(book), sorted(slots for _, slots, _ in book.places)
                          == sorted(slots for _, slots, _ in least(book).places))
        for book in (twice(), again(), set_book(), two_words(), one_place()):
            self.assertIs(is_least(book), True)

    def test_a_place_too_many(self):
        for seed, book in enumerate((twice(), again(), set_book(), two_words())):
            self.assertIs(is_least(doubled(book, seed)), False)
        places = [("p", 0, True), ("q", 0, True)]
        book = Book(words=["w"], places=places, start="p", rules=[("p", "w", 0, "q", ()), ("q", "w", 0, "p", ())])
        self.assertIs(is_least(book), False)
        self.assertIs(is_least(book.with_answer("q", False)), True)

    def test_an_idle_slot(self):
        places = [("s", 0, False), ("t", 1, True)]
        rules = [("s", "in", 0, "t", (0,)), ("t", "in", 0, "t", (0,)), ("t", "in", 1, "t", (1,))]
        self.assertIs(is_least(Book(words=["in"], places=places, start="s", rules=rules)), False)
        self.assertIs(is_least(idle_book()), False)

    def test_a_place_that_is_not_reached(self):
        places = [("s", 0, False), ("t", 0, True)]
        rules = [("s", "in", 0, "s", ()), ("t", "in", 0, "s", ())]
        self.assertIs(is_least(Book(words=["in"], places=places, start="s", rules=rules)), False)

    def test_alike_books_have_least_books_of_one_size(self):
        for seed, book in enumerate(books()):
            for other in (doubled(book, seed), least(book), doubled(least(book), seed)):
                self.assertEqual(sizes(least(other)), sizes(least(book)))

    def test_no_alike_book_is_smaller_or_holds_fewer_names(self):
        # Books of which one is alike to another one, drawn, are compared with the least one.
        drawn = [random_book(seed, most_places=3) for seed in range(120)]
        for one, other in itertools.combinations(drawn, 2):
            if alike(one, other):
                told = least(one)
                self.assertLessEqual(len(told.places), len(other.places))
                for row in kind_rows(one.words, 4):
                    self.assertLessEqual(len(read_plainly(told, row)[1]), len(read_plainly(other, row)[1]))


class TestBounds(unittest.TestCase):
    """Point 1, and TooMany."""

    def test_limits_that_are_great_enough(self):
        for book in books():
            many = all_there_are(book)
            self.assertEqual(parts(least(book, limit=many)), parts(least(book)))
            self.assertEqual(place_map(book, limit=many), place_map(book))
            self.assertEqual(is_least(book, limit=many), is_least(book))

    def test_limits_that_are_too_small(self):
        for book in (set_book(), idle_book(), crossed_book(), doubled(two_words(), 1)):
            for limit in (0, 1, 2):
                for question in (least, place_map, is_least):
                    with self.assertRaises(TooMany) as caught:
                        question(book, limit=limit)
                    self.assertEqual(caught.exception.limit, limit)

    def test_the_book_stays(self):
        for book in (crossed_book(), idle_book()):
            before = parts(book)
            least(book)
            place_map(book)
            is_least(book)
            self.assertEqual(parts(book), before)

    def test_six_slots(self):
        # Six names in order, each of which leads on from its own slot: 720 matchings, one of them right.
        places = [("s", 0, False)] + [(f"n{slots}", slots, False) for slots in range(1, 7)] + [("end", 0, True)]
        rules = [("s", "in", 0, "n1", (0,)), ("end", "in", 0, "end", ())]
        for slots in range(1, 7):
            every = tuple(range(1, slots + 1))
            goal = (f"n{slots + 1}", every + (0,)) if slots < 6 else ("n6", (2, 3, 4, 5, 6, 0))
            rules.append((f"n{slots}", "in", 0) + goal)
            rules += [(f"n{slots}", "in", case, f"n{slots}", every) for case in every[1:]]
            rules.append((f"n{slots}", "in", 1) + (("end", ()) if slots == 6 else (f"n{slots}", every)))
        book = Book(words=["in"], places=places, start="s", rules=rules)
        self.assertIs(is_least(book), True)
        self.assertEqual(sizes(least(doubled(book, 3))), sizes(book))


class TestExamples(unittest.TestCase):
    def test_the_example_of_the_interface(self):
        book = idle_book()
        self.assertEqual(place_map(book),
                         [("start", "p1", ()), ("two", "p3", (2,)), ("end", "p4", ()), ("one", "p2", (1,))])
        self.assertEqual(least(book).places, (("p1", 0, False), ("p2", 1, False), ("p3", 1, False), ("p4", 0, True)))
