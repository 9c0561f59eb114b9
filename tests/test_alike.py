import copy
import unittest

from fewestheld.alike import alike, check_closed, check_difference, closed_list, difference
from fewestheld.books import Book
from fewestheld.errors import InvalidQuestion, InvalidRow, TooMany
from fewestheld.matchings import triple_of
from tests.samples import (again, alike_plainly, answer_plainly, behind_plainly, idle_book, kind_rows, one_place,
                           random_book, twice, two_words)


def without_idle_slots():
    """The book of the interface with idle slots, without them."""
    places = [("start", 0, False), ("one", 1, False), ("two", 1, False), ("end", 0, True)]
    rules = [("start", "in", 0, "one", (0,)), ("one", "in", 0, "two", (1,)), ("one", "in", 1, "one", (1,)),
             ("two", "in", 0, "two", (1,)), ("two", "in", 1, "end", ()), ("end", "in", 0, "end", ())]
    return Book(words=["in"], places=places, start="start", rules=rules)


def other_order():
    """The book two_words with the slots of two in the other order."""
    rules = []
    for place, word, case, goal, moves in two_words().rules:
        if goal == "two":
            moves = moves[::-1]
        if place == "two":
            case = (0, 2, 1)[case]
            moves = tuple((0, 2, 1)[source] for source in moves)
        rules.append((place, word, case, goal, moves))
    return Book(words=["put", "ask"], places=two_words().places, start="zero", rules=rules)


def places_twice():
    """The book twice with each place twice, which it changes at each read."""
    places = [(name + end, slots, yes) for name, slots, yes in twice().places for end in "xy"]
    rules = [(place + end, word, case, goal + ("y" if end == "x" else "x"), moves)
             for place, word, case, goal, moves in twice().rules for end in "xy"]
    return Book(words=["in"], places=places, start="sx", rules=rules)


def alike_pairs():
    return [(twice(), twice()), (twice(), places_twice()), (two_words(), other_order()),
            (idle_book(), without_idle_slots()), (idle_book(), idle_book())]


def random_pairs(words, count):
    """Pairs of random books, half of them with a small change only."""
    found = []
    for seed in range(count):
        first = random_book(seed, words=words)
        found.append((first, random_book(seed + 1000, words=words)))
        found.append((first, first.with_answer(first.place_names[-1], not first.says_yes(first.place_names[-1]))))
    return found


def first_difference(first, second, most):
    """The first row with at most so many reads that tells two books apart, found by trying all."""
    for many in range(most + 1):
        for row in kind_rows(first.words, many):
            if answer_plainly(first, row) != answer_plainly(second, row):
                return row
    return None


def walked(first, second):
    """How many triples point 34 counts, and the first one with unlike answers, from the plain triples."""
    start = (first.start, second.start, ())
    rows, order = {start: ()}, [start]
    for triple in order:
        if first.says_yes(triple[0]) != second.says_yes(triple[1]):
            return len(order), triple
        row = rows[triple]
        for word in first.words:
            for number in range(1, len(set(name for _, name in row)) + 2):
                longer = row + ((word, f"a{number}"),)
                goal = triple_of(first, second, list(longer))
                if goal not in rows:
                    rows[goal] = longer
                    order.append(goal)
    return len(order), None


class TestAlike(unittest.TestCase):
    """Points 29 and 30."""

    def test_alike_in_other_forms(self):
        for one, other in alike_pairs():
            self.assertIs(alike(one, other), True)
            self.assertIs(alike(other, one), True)
            self.assertIsNone(difference(one, other))

    def test_not_alike(self):
        for one, other in [(twice(), again()), (again(), again((0,))), (twice(), twice().with_answer("yes", False)),
                           (two_words(), two_words().with_answer("two", True)), (twice(), twice().turned()),
                           (two_words(), two_words().with_rule(("two", "ask", 0, "one", (1,))))]:
            self.assertIs(alike(one, other), False)
            self.assertIs(alike(other, one), False)
            self.assertIsNone(closed_list(one, other))

    def test_a_place_that_is_not_reached_does_not_matter(self):
        lonely = Book(words=["in"], places=[("p", 0, False), ("q", 0, True)], start="p",
                      rules=[("p", "in", 0, "p", ()), ("q", "in", 0, "q", ())])
        self.assertIs(alike(lonely, one_place()), True)
        self.assertIs(alike(lonely.with_start("q"), one_place()), False)

    def test_against_all_triples(self):
        for first, second in random_pairs(("in",), 60) + random_pairs(("u", "v"), 20):
            there = (first.start, second.start, ()) in alike_plainly(first, second)
            self.assertIs(alike(first, second), there)
            self.assertIs(difference(first, second) is None, there)
            self.assertIs(closed_list(first, second) is None, not there)

    def test_other_words(self):
        flipped = Book(words=["ask", "put"], places=two_words().places, start="zero", rules=two_words().rules)
        for one, other in [(twice(), one_place("on")), (two_words(), flipped), (twice(), two_words())]:
            for call in (alike, difference, closed_list):
                with self.assertRaises(InvalidQuestion):
                    call(one, other)
                with self.assertRaises(InvalidQuestion):
                    call(one, other, limit=0)
            with self.assertRaises(InvalidQuestion):
                check_closed(one, other, [("x", "y", ())])
            with self.assertRaises(InvalidQuestion):
                check_difference(one, other, [("zz", "A")])


class TestClosedLists(unittest.TestCase):
    """Points 31 and 32."""

    def test_order_of_first_rows(self):
        self.assertEqual(closed_list(two_words(), other_order()),
                         [("zero", "zero", ()), ("one", "one", ((1, 1),)), ("two", "two", ((1, 2), (2, 1)))])
        for first, second in alike_pairs() + [(book, book) for book in map(random_book, range(40))]:
            told = closed_list(first, second)
            found = []
            for many in range(6):
                for row in kind_rows(first.words, many):
                    triple = triple_of(first, second, row)
                    if triple not in found:
                        found.append(triple)
            self.assertEqual(told, found)

    def test_two_words_in_order(self):
        for seed in range(30):
            book = random_book(seed, words=("v", "u"), most_places=5)
            found = []
            for many in range(5):
                for row in kind_rows(("v", "u"), many):
                    triple = triple_of(book, book, row)
                    if triple not in found:
                        found.append(triple)
            self.assertEqual(closed_list(book, book)[:len(found)], found)

    def test_what_is_told_shows_it(self):
        for one, other in alike_pairs():
            told = closed_list(one, other)
            self.assertIs(check_closed(one, other, told), True)
            self.assertIs(check_closed(one, other, told[::-1]), True)
            self.assertIs(check_closed(one, other, told + told), True)
            for at in range(len(told)):
                self.assertIs(check_closed(one, other, told[:at] + told[at + 1:]), False)

    def test_without_the_starts(self):
        book = twice()
        self.assertIs(check_closed(book, book, []), False)
        self.assertIs(check_closed(book, book, closed_list(book, book)[1:]), False)

    def test_more_than_is_needed(self):
        rules = [(place, "in", 0, place, ()) for place in "pq"]
        book = Book(words=["in"], places=[("p", 0, True), ("q", 0, True)], start="p", rules=rules)
        self.assertIs(check_closed(book, book, [("q", "p", ()), ("p", "p", ())]), True)
        self.assertIs(check_closed(book, book, [("q", "p", ())]), False)
        self.assertIs(check_closed(book, book.with_answer("q", False), [("p", "q", ()), ("p", "p", ())]), False)

    def test_strange_triples_make_it_false(self):
        book = twice()
        told = closed_list(book, book)
        for triple in [("x", "s", ()), ("s", "x", ()), ("", "", ()), ("one", "one", ((1, 2),)),
                       ("one", "one", ((2, 1),)), ("one", "one", ((1, 1), (1, 1))), ("s", "s", ((1, 1),)),
                       ("one", "one", ((0, 0),)), ("one", "one", ((1,),)), ("one", "one", ((1, 1, 1),)),
                       ("s", "s"), ("s", "s", (), ()), (), ["x", "s", []], ("one", "one", [[1, 2]])]:
            self.assertIs(check_closed(book, book, told + [triple]), False, triple)
            self.assertIs(check_closed(book, book, [triple] + told), False, triple)
            self.assertIs(check_closed(book, book, [triple]), False, triple)

    def test_pairs_in_another_order_are_no_matching(self):
        book = two_words()
        told = closed_list(book, book)
        self.assertEqual(told[2], ("two", "two", ((1, 1), (2, 2))))
        self.assertIs(check_closed(book, book, told[:2] + [("two", "two", ((2, 2), (1, 1)))]), False)
        self.assertIs(check_closed(book, book, told + [("two", "two", ((2, 2), (1, 1)))]), False)

    def test_lists_for_tuples(self):
        for one, other in alike_pairs():
            told = closed_list(one, other)
            self.assertIs(check_closed(one, other, [list(triple) for triple in told]), True)
            lists = [[place, goal, [list(pair) for pair in pairs]] for place, goal, pairs in told]
            self.assertIs(check_closed(one, other, lists), True)
            some = [(place, goal, tuple(list(pair) for pair in pairs)) for place, goal, pairs in told]
            self.assertIs(check_closed(one, other, some), True)
            self.assertIs(check_closed(one, other, lists[1:]), False)
            self.assertIs(check_closed(one, other.with_answer(other.start, not other.says_yes(other.start)), lists),
                          False)

    def test_arguments_stay_and_lists_are_new(self):
        book = two_words()
        lists = [[place, goal, [list(pair) for pair in pairs]] for place, goal, pairs in closed_list(book, book)]
        before = copy.deepcopy(lists)
        check_closed(book, book, lists)
        self.assertEqual(lists, before)
        told = closed_list(book, book)
        told.pop()
        self.assertEqual(len(closed_list(book, book)), 3)
        row = [("put", "a")]
        check_difference(book, book, row)
        self.assertEqual(row, [("put", "a")])


class TestDifferences(unittest.TestCase):
    """Point 33."""

    def test_against_all_rows(self):
        told = 0
        for first, second in random_pairs(("in",), 80):
            row = first_difference(first, second, 6)
            if row is not None:
                self.assertEqual(difference(first, second), row)
                told += 1
            else:
                self.assertTrue(difference(first, second) is None or len(difference(first, second)) > 6)
        self.assertGreater(told, 60)

    def test_against_all_rows_of_two_words(self):
        for first, second in random_pairs(("v", "u"), 60):
            row = first_difference(first, second, 4)
            if row is not None:
                self.assertEqual(difference(first, second), row)
                self.assertIs(check_difference(first, second, row), True)
            else:
                self.assertTrue(difference(first, second) is None or len(difference(first, second)) > 4)

    def test_the_empty_row(self):
        self.assertEqual(difference(twice(), twice().turned()), [])

    def test_words_come_ahead_of_names(self):
        rules = [("p", word, 0, "p" if word == "v" else "q", ()) for word in ("u", "v")]
        rules += [("q", word, 0, "q", ()) for word in ("u", "v")]
        for words, row in [(["u", "v"], [("u", "a1")]), (["v", "u"], [("u", "a1")])]:
            book = Book(words=words, places=[("p", 0, False), ("q", 0, True)], start="p", rules=rules)
            self.assertEqual(difference(book, book.with_answer("q", False)), row)
        ends = [("p", word, 0, "q", ()) for word in ("u", "v")] + rules[2:]
        for words in (["u", "v"], ["v", "u"]):
            book = Book(words=words, places=[("p", 0, False), ("q", 0, True)], start="p", rules=ends)
            self.assertEqual(difference(book, book.with_answer("q", False)), [(words[0], "a1")])

    def test_names_that_were_forgotten_come_ahead_of_new_ones(self):
        places = [("p", 0, False), ("q", 1, False), ("r", 1, False), ("t", 0, True)]
        rules = [("p", "in", 0, "q", (0,)), ("q", "in", 0, "r", (0,)), ("q", "in", 1, "q", (1,)),
                 ("r", "in", 0, "t", ()), ("r", "in", 1, "r", (1,)), ("t", "in", 0, "t", ())]
        book = Book(words=["in"], places=places, start="p", rules=rules)
        self.assertEqual(difference(book, book.with_answer("t", False)), [("in", "a1"), ("in", "a2"), ("in", "a1")])

    def test_a_forgotten_name_moves_its_triple_ahead(self):
        # Behind a1 a2 the name a1 is forgotten: reading it comes ahead of reading a2.
        places = [("p", 0, False), ("q", 1, False), ("r", 1, False), ("x", 0, False), ("y", 0, False), ("t", 0, True)]
        rules = [("p", "in", 0, "q", (0,)), ("q", "in", 0, "r", (0,)), ("q", "in", 1, "q", (1,)),
                 ("r", "in", 0, "x", ()), ("r", "in", 1, "y", ()), ("x", "in", 0, "t", ()), ("y", "in", 0, "t", ()),
                 ("t", "in", 0, "t", ())]
        book = Book(words=["in"], places=places, start="p", rules=rules)
        self.assertEqual([triple[0] for triple in closed_list(book, book)], ["p", "q", "r", "x", "y", "t"])
        self.assertEqual(difference(book, book.with_answer("t", False)),
                         [("in", "a1"), ("in", "a2"), ("in", "a1"), ("in", "a1")])

    def test_many_names(self):
        places = [(f"p{number}", 0, number == 12) for number in range(13)]
        rules = [(f"p{number}", "in", 0, f"p{min(number + 1, 12)}", ()) for number in range(13)]
        book = Book(words=["in"], places=places, start="p0", rules=rules)
        self.assertEqual(difference(book, book.with_answer("p12", False)), [("in", "a1")] * 12)
        places = [(f"p{number}", number, False) for number in range(7)] + [("end", 0, True)]
        rules = [("end", "in", 0, "end", ())]
        for number in range(7):
            slots = tuple(range(1, number + 1))
            rules.extend((f"p{number}", "in", case, f"p{number}", slots) for case in slots)
            goal = (f"p{number + 1}", slots + (0,)) if number < 6 else ("end", ())
            rules.append((f"p{number}", "in", 0, *goal))
        book = Book(words=["in"], places=places, start="p0", rules=rules)
        self.assertEqual(difference(book, book.with_answer("end", False)),
                         [("in", f"a{number}") for number in range(1, 8)])

    def test_check_difference(self):
        first, last = again(), again((0,))
        row = difference(first, last)
        self.assertIs(check_difference(first, last, row), True)
        self.assertIs(check_difference(first, last, [("in", "z"), ("in", "b"), ("in", "z")]), True)
        self.assertIs(check_difference(first, first, row), False)
        self.assertIs(check_difference(first, last, row[:2]), False)
        self.assertIs(check_difference(first, last, []), False)
        self.assertIs(check_difference(first, first.turned(), []), True)

    def test_check_difference_of_strange_rows(self):
        first, last = again(), again((0,))
        row = difference(first, last)
        self.assertIs(check_difference(first, last, row + [("on", "a")]), False)
        self.assertIs(check_difference(first, last, [("in", "A"), ("on", "a")]), False)
        self.assertIs(check_difference(first, last, [("on", "A")]), False)
        for name in ["", "A", "1", "abcdefghijklm", "a\n"]:
            with self.assertRaises(InvalidRow):
                check_difference(first, last, row + [("in", name)])
            with self.assertRaises(InvalidRow):
                check_difference(first, first, [("in", name)])


class TestLimits(unittest.TestCase):
    """Point 34."""

    def test_as_many_as_are_counted(self):
        for first, second in alike_pairs() + random_pairs(("in",), 40) + random_pairs(("v", "u"), 15):
            many, unlike = walked(first, second)
            for call in (alike, difference, closed_list):
                self.assertEqual(call(first, second, limit=many), call(first, second))
                with self.assertRaises(TooMany) as caught:
                    call(first, second, limit=many - 1)
                self.assertEqual(caught.exception.limit, many - 1)
            self.assertIs(alike(first, second), unlike is None)
            if unlike is None:
                self.assertEqual(len(closed_list(first, second)), many)

    def test_the_starts_count(self):
        for call in (alike, difference, closed_list):
            with self.assertRaises(TooMany) as caught:
                call(twice(), twice().turned(), limit=0)
            self.assertEqual(caught.exception.limit, 0)
        self.assertIs(alike(twice(), twice().turned(), limit=1), False)
        self.assertEqual(difference(twice(), twice().turned(), limit=1), [])

    def test_those_behind_the_first_unlike_one_do_not_count(self):
        first = again()
        second = first.with_answer("one", True)
        self.assertEqual(difference(first, second, limit=2), [("in", "a1")])
        with self.assertRaises(TooMany):
            difference(first, second, limit=1)

    def test_what_is_beside_it_counts(self):
        # Behind a1 there are two triples, by a1 and by a2; the first one is unlike, the second one counts.
        first = again()
        second = first.with_answer("again", False)
        self.assertEqual(difference(first, second, limit=3), [("in", "a1"), ("in", "a1")])
        with self.assertRaises(TooMany):
            difference(first, second, limit=2)


class TestExamples(unittest.TestCase):
    def test_the_example_of_the_interface(self):
        first, last = again(), again((0,))
        self.assertEqual(difference(first, last), [("in", "a1"), ("in", "a2"), ("in", "a1")])
        self.assertEqual(closed_list(first, first), [("start", "start", ()), ("one", "one", ((1, 1),)),
                                                     ("again", "again", ())])

    def test_behind_plainly_is_what_rows_do(self):
        first, last = again(), again((0,))
        triple = triple_of(first, last, [("in", "a1"), ("in", "a2")])
        goals = [goal for _, goal in behind_plainly(first, last, triple, "in")]
        self.assertIn(triple_of(first, last, [("in", "a1"), ("in", "a2"), ("in", "a1")]), goals)
