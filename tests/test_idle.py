import itertools
import unittest

from fewestheld.books import Book
from fewestheld.errors import TooMany, UnknownName
from fewestheld.idle import idle_slots, reached_places, symmetries
from fewestheld.matchings import matchings
from tests.samples import (again, alike_plainly, all_there_are, answer_plainly, idle_book, idle_plainly, kind_rows,
                           one_place, parts, random_book, set_book, twice, two_words)


def books():
    return ([twice(), again(), idle_book(), two_words(), set_book(), one_place()] +
            [random_book(seed) for seed in range(60)] + [random_book(seed, words=("u", "v")) for seed in range(20)])


class TestReached(unittest.TestCase):
    """Point 35."""

    def test_the_order_of_first_coming(self):
        self.assertEqual(reached_places(twice()), ["s", "one", "yes"])
        self.assertEqual(reached_places(idle_book()), ["start", "one", "two", "end"])
        self.assertEqual(reached_places(one_place()), ["p"])

    def test_words_then_cases(self):
        places = [(name, 0, True) for name in "edcba"] + [("two", 1, True)]
        rules = [(name, word, 0, name, ()) for name in "bcde" for word in ("v", "u")]
        rules += [("a", "u", 0, "b", ()), ("a", "v", 0, "two", (0,)), ("two", "v", 1, "c", ()),
                  ("two", "v", 0, "d", ()), ("two", "u", 0, "e", ()), ("two", "u", 1, "two", (1,))]
        book = Book(words=["v", "u"], places=places, start="a", rules=rules)
        self.assertEqual(reached_places(book), ["a", "two", "b", "d", "c", "e"])
        book = Book(words=["u", "v"], places=places, start="a", rules=rules)
        self.assertEqual(reached_places(book), ["a", "b", "two", "e", "d", "c"])
        self.assertEqual(reached_places(book.with_start("e")), ["e"])

    def test_a_new_list(self):
        book = twice()
        reached_places(book).append("x")
        self.assertEqual(reached_places(book), ["s", "one", "yes"])


class TestIdle(unittest.TestCase):
    """Points 36 to 39."""

    def test_all_books_against_all_triples(self):
        for book in books():
            good = alike_plainly(book, book)
            there = reached_places(book)
            wanted = [(name, idle_plainly(book, name, good)) for name in book.place_names if name in there]
            self.assertEqual(idle_slots(book), wanted)

    def test_the_name_in_an_idle_slot_never_matters(self):
        for seed in range(25):
            book = random_book(seed)
            for name, idle in idle_slots(book):
                held = tuple(f"s{slot}" for slot in range(1, book.slots(name) + 1))
                for at, own in enumerate(held):
                    changed = held[:at] + ("t",) + held[at + 1:]
                    rests = [[(word, dict(zip(["a1", "a2", "a3"], names)).get(read, read)) for word, read in row]
                             for row in kind_rows(book.words, 4)
                             for names in itertools.permutations([own, "t", "x", *held[:at], *held[at + 1:]], 3)]
                    same = all(answer_plainly(book, rest, name, held) == answer_plainly(book, rest, name, changed)
                               for rest in rests)
                    self.assertIs(same, at + 1 in idle, (seed, name))

    def test_idle_slots_stay_idle(self):
        # Point 38: what takes the name of an idle slot is idle, too.
        for book in books():
            idle = dict(idle_slots(book))
            for place, _, case, goal, moves in book.rules:
                for slot, source in enumerate(moves, 1):
                    if place in idle and source in idle[place] and source not in (0, case):
                        self.assertIn(slot, idle[goal])

    def test_places_that_are_not_reached_are_left_out(self):
        places = [("q", 1, True), ("p", 0, False), ("r", 1, False)]
        rules = [("p", "in", 0, "r", (0,)), ("q", "in", 0, "q", (0,)), ("q", "in", 1, "p", ()),
                 ("r", "in", 0, "r", (0,)), ("r", "in", 1, "p", ())]
        book = Book(words=["in"], places=places, start="p", rules=rules)
        self.assertEqual(idle_slots(book), [("p", ()), ("r", (1,))])

    def test_symmetries(self):
        self.assertEqual(symmetries(set_book(), "both"), [((1, 1), (2, 2)), ((1, 2), (2, 1))])
        self.assertEqual(symmetries(set_book(), "one"), [((1, 1),)])
        self.assertEqual(symmetries(set_book(), "s"), [()])
        self.assertEqual(symmetries(idle_book(), "two"), [((2, 2),)])
        self.assertEqual(symmetries(idle_book(), "end"), [()])
        self.assertEqual(symmetries(two_words(), "two"), [((1, 1), (2, 2))])

    def test_symmetries_against_all_triples(self):
        for book in books():
            good = alike_plainly(book, book)
            for name, slots, _ in book.places:
                idle = idle_plainly(book, name, good)
                kept = tuple(slot for slot in range(1, slots + 1) if slot not in idle)
                wanted = sorted(pairs for place, other, pairs in good if place == other == name
                                and len(pairs) == len(kept) and all(one in kept and two in kept for one, two in pairs))
                self.assertEqual(symmetries(book, name), wanted)
                self.assertIn(tuple((slot, slot) for slot in kept), wanted)

    def test_symmetries_of_three_slots(self):
        places = [("s", 0, False), ("one", 1, False), ("two", 2, False), ("all", 3, False), ("end", 0, True)]
        rules = [("s", "in", 0, "one", (0,)), ("one", "in", 0, "two", (0, 1)), ("one", "in", 1, "one", (1,)),
                 ("two", "in", 0, "all", (0, 1, 2)), ("two", "in", 1, "two", (1, 2)), ("two", "in", 2, "two", (1, 2)),
                 ("end", "in", 0, "end", ()), ("all", "in", 0, "all", (2, 3, 1))]
        rules += [("all", "in", case, "end", ()) for case in (1, 2, 3)]
        book = Book(words=["in"], places=places, start="s", rules=rules)
        self.assertEqual(symmetries(book, "all"), [pairs for pairs in matchings(3, 3) if len(pairs) == 3])
        turning = book.with_rule(("all", "in", 2, "all", (2, 3, 1))).with_rule(("all", "in", 3, "all", (2, 3, 1)))
        self.assertEqual(symmetries(turning, "all"), [((1, 1), (2, 2), (3, 3))])
        steady = turning.with_rule(("all", "in", 0, "all", (1, 3, 2)))
        self.assertEqual(dict(idle_slots(steady))["all"], ())

    def test_symmetries_of_a_place_that_is_not_reached(self):
        places = [("p", 0, False), ("q", 1, True)]
        rules = [("p", "in", 0, "p", ()), ("q", "in", 0, "q", (1,)), ("q", "in", 1, "p", ())]
        book = Book(words=["in"], places=places, start="p", rules=rules)
        self.assertEqual(symmetries(book, "q"), [((1, 1),)])

    def test_unknown_places(self):
        for name in ["x", "in", "", "A"]:
            for limit in (0, 20000):
                with self.assertRaises(UnknownName) as caught:
                    symmetries(twice(), name, limit=limit)
                self.assertEqual(caught.exception.name, name)

    def test_limits(self):
        for book in books()[:30]:
            many = all_there_are(book)
            self.assertEqual(idle_slots(book, limit=many), idle_slots(book))
            for name in book.place_names:
                self.assertEqual(symmetries(book, name, limit=many), symmetries(book, name))
        for limit in (0, 1):
            with self.assertRaises(TooMany) as caught:
                idle_slots(set_book(), limit=limit)
            self.assertEqual(caught.exception.limit, limit)
            with self.assertRaises(TooMany) as caught:
                symmetries(set_book(), "both", limit=limit)
            self.assertEqual(caught.exception.limit, limit)

    def test_arguments_stay_and_lists_are_new(self):
        book = idle_book()
        before = parts(book)
        idle_slots(book).clear()
        symmetries(book, "two").clear()
        self.assertEqual(len(idle_slots(book)), 4)
        self.assertEqual(len(symmetries(book, "two")), 1)
        self.assertEqual(parts(book), before)


class TestExamples(unittest.TestCase):
    def test_the_example_of_the_interface(self):
        self.assertEqual(idle_slots(idle_book()), [("start", ()), ("two", (1,)), ("end", (1,)), ("one", ())])
