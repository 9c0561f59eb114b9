import unittest

from fewestheld.books import Book
from fewestheld.errors import InvalidQuestion, InvalidRow, TooMany, UnknownName
from fewestheld.trials import Trial, check_trial, trial
from tests.samples import (again, all_there_are, answer_plainly, crossed_book, doubled, idle_book, matchings_plainly,
                           parts, random_book, reached_plainly, read_plainly, rest_lengths, set_book, twice, two_words)


def books():
    found = [twice(), again(), idle_book(), two_words(), set_book(), crossed_book(), doubled(two_words(), 1)]
    return (found + [random_book(seed) for seed in range(40)] +
            [random_book(seed, words=("u", "v"), most_places=5) for seed in range(15)])


def triples(book):
    there = reached_plainly(book)
    return [(one[0], other[0], pairs) for one in book.places for other in book.places
            for pairs in matchings_plainly(one[1], other[1]) if one[0] in there and other[0] in there]


def is_right_plainly(book, place, other, pairs, told):
    one, held = read_plainly(book, told.first)
    two, other_held = read_plainly(book, told.second)
    same = tuple((held.index(name) + 1, other_held.index(name) + 1) for name in held if name in other_held)
    return ((one, two, same) == (place, other, pairs) and
            answer_plainly(book, told.first + told.rest) != answer_plainly(book, told.second + told.rest))


class TestTrial(unittest.TestCase):
    """Points 100 and 101: what is found."""

    def test_a_right_trial_with_a_shortest_rest_or_none(self):
        for book in books():
            lengths = rest_lengths(book)
            for place, other, pairs in triples(book):
                told = trial(book, place, other, pairs)
                if (place, other, pairs) in lengths:
                    self.assertTrue(is_right_plainly(book, place, other, pairs, told))
                    self.assertEqual(len(told.rest), lengths[(place, other, pairs)])
                    self.assertIs(check_trial(book, place, other, pairs, told), True)
                else:
                    self.assertIsNone(told)

    def test_places_that_are_alike_under_a_matching(self):
        book = crossed_book()
        self.assertIsNone(trial(idle_book(), "two", "two", ((2, 2),)))
        self.assertIsNone(trial(book, "pair", "cross", ((1, 2), (2, 1))))
        self.assertIsNone(trial(book, "pair", "pair", ((1, 1), (2, 2))))
        self.assertEqual(len(trial(book, "pair", "cross", ((1, 1), (2, 2))).rest), 1)
        self.assertEqual(trial(book, "s", "end", ()).rest, ())

    def test_it_is_made_of_tuples(self):
        told = trial(two_words(), "two", "two", ((1, 2), (2, 1)))
        hash((told.first, told.second, told.rest))

    def test_places_that_are_not_reached(self):
        for place, other, pairs in (("far", "one", ()), ("one", "far", ((1, 1),)), ("far", "far", ())):
            for limit in (0, 20000):
                with self.assertRaises(InvalidQuestion):
                    trial(crossed_book(), place, other, pairs, limit=limit)

    def test_limits(self):
        for book in books()[:12]:
            many = all_there_are(book)
            for place, other, pairs in triples(book):
                told, small = trial(book, place, other, pairs), trial(book, place, other, pairs, limit=many)
                self.assertEqual(told and told.rest, small and small.rest)
        for limit in (0, 1):
            with self.assertRaises(TooMany) as caught:
                trial(set_book(), "both", "both", ((1, 1),), limit=limit)
            self.assertEqual(caught.exception.limit, limit)

    def test_many_slots_and_a_long_rest(self):
        # Six names are read, and the answer is yes behind six reads from there on of which the last is the second name.
        places = [(f"n{at}", min(at, 6), False) for at in range(12)] + [("end", 0, True)]
        rules = []
        for at in range(12):
            slots = min(at, 6)
            every = tuple(range(1, slots + 1))
            for case in range(slots + 1):
                goal = (f"n{min(at + 1, 11)}", every + (0,) if slots < 6 else every)
                if at == 11 and case == 2:
                    goal = ("end", ())
                elif slots < 6 and case:
                    goal = (f"n{at}", every)
                rules.append((f"n{at}", "in", case) + goal)
        rules.append(("end", "in", 0, "end", ()))
        book = Book(words=["in"], places=places, start="n0", rules=rules)
        others = tuple((slot, slot) for slot in (1, 3, 4, 5, 6))
        told = trial(book, "n6", "n6", others)
        self.assertEqual(len(told.rest), 6)
        self.assertTrue(is_right_plainly(book, "n6", "n6", others, told))
        self.assertIsNone(trial(book, "n6", "n6", ((2, 2),)))


class TestCheckTrial(unittest.TestCase):
    """Points 100 and 101: what is checked."""

    def check(self, first, second, rest, pairs=(), place="one", other="one", book=None):
        """Check a trial of names alone, each written as one letter."""
        rows = [[("in", name) for name in names] for names in (first, second, rest)]
        return check_trial(book or again(), place, other, pairs, Trial(*rows))

    def test_right_ones(self):
        self.assertIs(self.check("a", "b", "a"), True)
        self.assertIs(self.check("a", "b", "b"), True)
        self.assertIs(self.check("ac", "bc", "a"), True)
        self.assertIs(self.check("ab", "a", "", ((1, 1),)), False)
        self.assertIs(self.check("", "aa", "", place="start", other="again"), True)

    def test_the_rows_exchanged(self):
        self.assertIs(self.check("", "a", "a", place="start"), True)
        self.assertIs(self.check("a", "", "a", place="start"), False)
        self.assertIs(self.check("a", "", "a", other="start"), True)

    def test_a_row_that_leads_elsewhere(self):
        self.assertIs(self.check("aa", "b", "b"), False)
        self.assertIs(self.check("a", "bb", "a"), False)
        self.assertIs(self.check("", "b", "b"), False)

    def test_a_matching_of_more_or_fewer_slots(self):
        self.assertIs(self.check("a", "b", "a", ((1, 1),)), False)
        self.assertIs(self.check("ab", "ab", "", ((1, 1),)), False)
        book = set_book()
        held = {"first": "ab", "second": "ac", "place": "both", "other": "both", "book": book}
        self.assertIs(self.check(rest="b", pairs=((1, 1),), **held), True)
        for pairs in matchings_plainly(2, 2):
            self.assertIs(self.check(rest="b", pairs=pairs, **held), pairs == ((1, 1),))
        held["second"] = "ca"
        for pairs in matchings_plainly(2, 2):
            self.assertIs(self.check(rest="b", pairs=pairs, **held), pairs == ((1, 2),))

    def test_a_rest_behind_which_the_answers_are_the_same(self):
        for rest in ("", "c", "cd", "ab", "ba", "cc"):
            self.assertIs(self.check("a", "b", rest), False)

    def test_names_that_were_read_but_are_in_no_slot_are_new(self):
        self.assertIs(self.check("ac", "bd", "c"), False)
        self.assertIs(self.check("ac", "bd", "ca"), True)

    def test_check_of_places_that_are_not_reached(self):
        told = Trial([("in", "a")], [("in", "b")], [("in", "a")])
        self.assertIs(check_trial(crossed_book(), "far", "one", (), told), False)

    def test_against_plain_reading(self):
        for book in books()[:25]:
            for place, other, pairs in triples(book):
                told = trial(book, place, other, pairs)
                if told is None:
                    continue
                for changed in (Trial(told.second, told.first, told.rest), Trial(told.first, told.first, told.rest),
                                Trial(told.first, told.second, told.rest[:-1]),
                                Trial(told.first, told.second, told.rest + ((book.words[0], "zz"),))):
                    self.assertIs(check_trial(book, place, other, pairs, changed),
                                  is_right_plainly(book, place, other, pairs, changed))


class TestErrors(unittest.TestCase):
    """Point 108."""

    def both(self, book, place, other, pairs, told=None):
        yield lambda: trial(book, place, other, pairs, limit=0)
        yield lambda: check_trial(book, place, other, pairs, told or Trial([("x", "A")], [("y", "")], [("z", "1")]))

    def test_strange_places_come_first(self):
        for place, other, name in (("x", "one", "x"), ("one", "x", "x"), ("in", "x", "in"), ("", "A", ""),
                                   ("one", "A", "A"), ("far", "y", "y")):
            for question in self.both(crossed_book(), place, other, ((9, 9),)):
                with self.assertRaises(UnknownName) as caught:
                    question()
                self.assertEqual(caught.exception.name, name)

    def test_pairs_that_are_no_matching(self):
        for pairs in (((2, 1),), ((0, 1),), ((1, 0),), ((1, 3),), ((1, 1), (1, 2)), ((1, 1, 1),)):
            for question in self.both(crossed_book(), "one", "pair", pairs):
                self.assertRaises(InvalidQuestion, question)
        for pairs in (((2, 2), (1, 1)), ((1, 1), (2, 1))):
            for question in self.both(crossed_book(), "pair", "cross", pairs):
                self.assertRaises(InvalidQuestion, question)

    def test_rows_are_looked_at_one_by_one(self):
        strange, none, plain = [("in", "A"), ("up", "a")], [("in", "B")], [("in", "a")]
        other = [("out", "a")]
        for rows, name in (((strange, none, other), "up"), ((none, strange, other), None),
                           ((plain, strange, none), "up"), ((plain, none, other), None),
                           ((plain, plain, other), "out"), ((plain, plain, none), None)):
            with self.assertRaises(InvalidRow if name is None else UnknownName) as caught:
                check_trial(again(), "one", "one", (), Trial(*rows))
            if name:
                self.assertEqual(caught.exception.name, name)

    def test_a_row_that_leads_elsewhere_does_not_hide_an_error(self):
        with self.assertRaises(InvalidRow):
            check_trial(again(), "one", "one", (), Trial([], [], [("in", "")]))


class TestCopies(unittest.TestCase):
    def test_trial_copies_what_it_is_given(self):
        first, second, rest = [["in", "a"]], [("in", "b")], [["in", "c"], ["in", "d"]]
        told = Trial(first, second, rest)
        first[0][1] = "x"
        second.clear()
        rest.append(["in", "e"])
        self.assertEqual((told.first, told.second, told.rest),
                         ((("in", "a"),), (("in", "b"),), (("in", "c"), ("in", "d"))))

    def test_arguments_stay(self):
        book = set_book()
        before = parts(book)
        pairs = ((1, 1),)
        told = trial(book, "both", "both", pairs)
        fields = (told.first, told.second, told.rest)
        check_trial(book, "both", "both", pairs, told)
        self.assertEqual((told.first, told.second, told.rest), fields)
        self.assertEqual((parts(book), pairs), (before, ((1, 1),)))
