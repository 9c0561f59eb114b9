import itertools
import unittest

from fewestheld.errors import InvalidQuestion, InvalidRow, TooMany, UnknownName
from fewestheld.least import least
from fewestheld.memory import check_shown, is_idle, most_remembered, remembered, shown
from tests.samples import (again, alike_plainly, all_there_are, answer_plainly, crossed_book, doubled, idle_book,
                           idle_plainly, kept_plainly, kind_rows, one_place, parts, random_book, reached_plainly,
                           read_plainly, rest_lengths, set_book, twice, two_words)


def books():
    found = [twice(), again(), idle_book(), two_words(), set_book(), crossed_book(), one_place()]
    return (found + [random_book(seed) for seed in range(25)] + [doubled(book, 1) for book in found[:4]] +
            [random_book(seed, words=("u", "v")) for seed in range(10)])


def rows_of(book):
    return kind_rows(book.words, 4 if len(book.words) == 1 else 3)


def names_in(row):
    return list(dict.fromkeys(name for _, name in row))


def plain_row(names):
    return [("in", name) for name in names]


def shows_plainly(book, row, name, other, rest):
    changed = [(word, other if read == name else read) for word, read in row]
    return answer_plainly(book, row + rest) != answer_plainly(book, changed + rest)


class TestRemembered(unittest.TestCase):
    """Points 102, 103 and 107."""

    def test_the_names_in_slots_that_are_not_idle_in_the_order_of_reading(self):
        for book in books():
            good = alike_plainly(book, book)
            for row in rows_of(book):
                place, held = read_plainly(book, row)
                kept = [held[slot - 1] for slot in kept_plainly(book, place, good)]
                self.assertEqual(remembered(book, row), [name for name in names_in(row) if name in kept])

    def test_the_names_that_matter_to_some_rest(self):
        # Every rest of up to three reads is tried, with the names of the row and two that are new.
        for book in books()[:25]:
            if len(book.words) > 1:
                continue
            for row in kind_rows(book.words, 3):
                names = names_in(row)
                rests = [[(book.words[0], name) for name in rest] for many in range(4)
                         for rest in itertools.product(names + ["x"], repeat=many)]
                told = remembered(book, row)
                for name in names:
                    if any(shows_plainly(book, row, name, "z", rest) for rest in rests):
                        self.assertIn(name, told)
                for name in told:
                    if len(shown(book, row, name)[1]) <= 3:
                        self.assertTrue(any(shows_plainly(book, row, name, "z", rest) for rest in rests))

    def test_the_order_of_first_reading(self):
        book = two_words()
        row = [("put", "z"), ("put", "m"), ("ask", "q")]
        self.assertEqual(read_plainly(book, row)[1], ("z", "m"))
        self.assertEqual(remembered(book, row), ["z", "m"])
        row = [("put", "z"), ("put", "m"), ("put", "q")]
        self.assertEqual(read_plainly(book, row)[1], ("q", "z"))
        self.assertEqual(remembered(book, row), ["z", "q"])
        self.assertEqual(remembered(book, []), [])

    def test_names_in_idle_slots_and_in_none(self):
        self.assertEqual(remembered(idle_book(), plain_row("ab")), ["a"])
        self.assertEqual(read_plainly(idle_book(), plain_row("ab")), ("two", ("b", "a")))
        self.assertEqual(remembered(idle_book(), plain_row("aba")), [])
        self.assertEqual(remembered(twice(), plain_row("abc")), ["c"])

    def test_alike_books_remember_the_same_names(self):
        for seed, book in enumerate(books()):
            for other in (least(book), doubled(book, seed)):
                for row in rows_of(book)[-40:]:
                    self.assertEqual(remembered(other, row), remembered(book, row))

    def test_the_least_book_holds_just_these(self):
        for book in books():
            told = least(book)
            for row in rows_of(book)[-40:]:
                self.assertEqual(sorted(read_plainly(told, row)[1]), sorted(remembered(book, row)))
                self.assertLessEqual(set(remembered(book, row)), set(read_plainly(book, row)[1]))


class TestShown(unittest.TestCase):
    """Point 104."""

    def test_names_that_have_to_be_remembered_and_others(self):
        for book in books():
            lengths = rest_lengths(book)
            for row in rows_of(book)[-60:]:
                place, held = read_plainly(book, row)
                told = remembered(book, row)
                for name in names_in(row):
                    found = shown(book, row, name)
                    if name not in told:
                        self.assertIsNone(found)
                        continue
                    other, rest = found
                    self.assertIsInstance(rest, list)
                    self.assertNotIn(other, names_in(row) + names_in(rest))
                    self.assertTrue(shows_plainly(book, row, name, other, rest))
                    self.assertIs(check_shown(book, row, name, found), True)
                    others = tuple((at, at) for at, own in enumerate(held, 1) if own != name)
                    self.assertEqual(len(rest), lengths[(place, place, others)])

    def test_names_of_any_letters(self):
        # The names that are told are not those of the row, whatever they are.
        for row in (plain_row(["a1"]), plain_row(["a2", "a1"]), plain_row(["a9", "a2", "a3", "a1", "a4"]),
                    plain_row(["z", "b1"])):
            for name in remembered(twice(), row):
                found = shown(twice(), row, name)
                self.assertTrue(shows_plainly(twice(), row, name, *found))
                self.assertNotIn(found[0], names_in(row) + names_in(found[1]))

    def test_the_rest_never_has_the_other_name(self):
        # The search reads both names at two places, of which the second one may not be read here.
        for seed in range(300):
            book = random_book(seed, most_places=5, most_slots=3)
            for row in kind_rows(book.words, 4)[-25:]:
                for name in remembered(book, row):
                    other, rest = shown(book, row, name)
                    self.assertNotIn(other, names_in(row) + names_in(rest))
                    self.assertTrue(shows_plainly(book, row, name, other, rest))

    def test_a_name_that_the_row_does_not_have(self):
        for row, name in (([], "a"), (plain_row("ab"), "c"), (plain_row("ab"), ""), (plain_row("ab"), "A")):
            for limit in (0, 20000):
                with self.assertRaises(InvalidQuestion):
                    shown(twice(), row, name, limit=limit)


class TestCheckShown(unittest.TestCase):
    """Point 104."""

    def check(self, row, name, other, rest, book=None):
        return check_shown(book or again(), plain_row(row), name, (other, plain_row(rest)))

    def test_right_ones(self):
        self.assertIs(self.check("a", "a", "b", "a"), True)
        self.assertIs(self.check("ac", "a", "b", "ca"), True)
        self.assertIs(self.check("a", "a", "b", "cda"), True)

    def test_rests_that_show_nothing(self):
        self.assertIs(self.check("a", "a", "b", ""), False)
        self.assertIs(self.check("a", "a", "b", "c"), False)
        self.assertIs(self.check("ac", "c", "b", "c"), False)
        self.assertIs(self.check("aa", "a", "b", "a"), False)

    def test_a_name_that_the_row_does_not_have(self):
        for name in ("b", "", "A", "c"):
            for other in ("d", "a", "A"):
                self.assertIs(self.check("a", name, other, "a"), False)
                self.assertIs(self.check("", name, other, "a"), False)

    def test_another_name_that_the_row_has(self):
        self.assertIs(self.check("ab", "a", "b", "a"), False)
        self.assertIs(self.check("a", "a", "a", "a"), False)

    def test_a_rest_that_has_the_other_name(self):
        # The rest b would show it, but for the other name in it.
        self.assertTrue(shows_plainly(again(), plain_row("a"), "a", "b", plain_row("b")))
        self.assertIs(self.check("a", "a", "b", "b"), False)
        self.assertIs(self.check("a", "a", "b", "ca"), True)
        self.assertIs(self.check("a", "a", "b", "cab"), False)

    def test_another_name_that_is_none(self):
        for other in ("", "A", "1a", "a" * 13, "b c"):
            with self.assertRaises(InvalidRow):
                self.check("a", "a", other, "a")
            with self.assertRaises(InvalidRow):
                self.check("a", "a", other, "")
            self.assertIs(self.check("a", "b", other, "a"), False)

    def test_rows_of_lists_and_tuples(self):
        self.assertIs(check_shown(again(), (("in", "a"),), "a", ("b", (("in", "a"),))), True)
        self.assertIs(check_shown(again(), [("in", "a")], "a", ["b", [("in", "a")]]), True)

    def test_against_plain_reading(self):
        for book in books()[:20]:
            for row in rows_of(book)[-15:]:
                for name in names_in(row):
                    for rest in kind_rows(book.words, 2):
                        self.assertIs(check_shown(book, row, name, ("z", rest)),
                                      shows_plainly(book, row, name, "z", rest))


class TestMostRemembered(unittest.TestCase):
    """Point 105."""

    def test_the_greatest_number_with_a_row_that_shows_it(self):
        for book in books():
            good = alike_plainly(book, book)
            many, row = most_remembered(book)
            self.assertEqual(many, max(len(kept_plainly(book, name, good)) for name in reached_plainly(book)))
            self.assertIsInstance(row, list)
            self.assertEqual(len(remembered(book, row)), many)

    def test_places_that_are_not_reached_and_idle_slots_do_not_count(self):
        self.assertEqual(most_remembered(idle_book())[0], 1)
        self.assertEqual(most_remembered(crossed_book())[0], 2)
        self.assertEqual(most_remembered(two_words())[0], 2)
        self.assertEqual(most_remembered(one_place()), (0, []))
        book = again().with_rule(("start", "in", 0, "start", ()))
        self.assertEqual(most_remembered(book), (0, []))


class TestIsIdle(unittest.TestCase):
    """Point 106."""

    def test_all_slots_of_all_places(self):
        for book in books():
            good = alike_plainly(book, book)
            for name, slots, _ in book.places:
                for slot in range(1, slots + 1):
                    self.assertIs(is_idle(book, name, slot), slot in idle_plainly(book, name, good))

    def test_at_a_place_that_is_not_reached(self):
        self.assertNotIn("far", reached_plainly(crossed_book()))
        self.assertIs(is_idle(crossed_book(), "far", 1), False)
        self.assertIs(is_idle(crossed_book().with_rule(("far", "in", 1, "far", (1,))), "far", 1), True)

    def test_slots_that_the_place_does_not_have(self):
        for slot in (0, 2, -1, 7):
            for limit in (0, 20000):
                with self.assertRaises(InvalidQuestion):
                    is_idle(twice(), "one", slot, limit=limit)
        self.assertRaises(InvalidQuestion, is_idle, twice(), "s", 1)

    def test_strange_places(self):
        for name in ("x", "", "A", "in"):
            for slot in (0, 1):
                with self.assertRaises(UnknownName) as caught:
                    is_idle(twice(), name, slot, limit=0)
                self.assertEqual(caught.exception.name, name)


class TestErrors(unittest.TestCase):
    """Point 108."""

    def questions(self, row, name="a"):
        yield lambda: remembered(twice(), row, limit=0)
        yield lambda: shown(twice(), row, name, limit=0)
        yield lambda: check_shown(twice(), row, name, ("b", []))

    def test_the_words_of_a_row_and_then_its_names(self):
        for question in self.questions([("in", "A"), ("out", "a"), ("up", "a")]):
            with self.assertRaises(UnknownName) as caught:
                question()
            self.assertEqual(caught.exception.name, "out")
        for bad in ("A", "", "1a", "a" * 13):
            for question in self.questions([("in", "a"), ("in", bad)]):
                self.assertRaises(InvalidRow, question)

    def test_the_row_comes_ahead_of_the_name(self):
        for question in self.questions([("out", "b")], name="c"):
            self.assertRaises(UnknownName, question)
        for question in self.questions([("in", "B")], name="c"):
            self.assertRaises(InvalidRow, question)

    def test_the_row_comes_ahead_of_the_rest_and_the_rest_ahead_of_the_name(self):
        strange, none, plain = [("out", "b")], [("in", "B")], [("in", "a")]
        for row, rest, error in ((none, strange, InvalidRow), (strange, none, UnknownName),
                                 (plain, strange, UnknownName), (plain, none, InvalidRow)):
            for name, other in (("a", "b"), ("x", "b"), ("a", "a"), ("a", "B")):
                self.assertRaises(error, check_shown, twice(), row, name, (other, rest))

    def test_limits_that_are_too_small(self):
        for limit in (0, 1):
            for question in (lambda: remembered(set_book(), plain_row("ab"), limit=limit),
                             lambda: shown(set_book(), plain_row("ab"), "a", limit=limit),
                             lambda: most_remembered(set_book(), limit=limit),
                             lambda: is_idle(set_book(), "both", 1, limit=limit)):
                with self.assertRaises(TooMany) as caught:
                    question()
                self.assertEqual(caught.exception.limit, limit)

    def test_limits_that_are_great_enough(self):
        for book in books():
            many = all_there_are(book)
            self.assertEqual(most_remembered(book, limit=many)[0], most_remembered(book)[0])
            for row in rows_of(book)[-10:]:
                self.assertEqual(remembered(book, row, limit=many), remembered(book, row))
                for name in names_in(row):
                    self.assertEqual(shown(book, row, name, limit=many) is None, shown(book, row, name) is None)
            for name, slots, _ in book.places:
                for slot in range(1, slots + 1):
                    self.assertEqual(is_idle(book, name, slot, limit=many), is_idle(book, name, slot))

    def test_arguments_stay_and_lists_are_new(self):
        book, row, told = two_words(), [("put", "z"), ("put", "m")], ("b", [("put", "z")])
        before = parts(book)
        remembered(book, row).clear()
        shown(book, row, "z")[1].clear()
        check_shown(book, row, "z", told)
        most_remembered(book)[1].clear()
        self.assertEqual((row, told), ([("put", "z"), ("put", "m")], ("b", [("put", "z")])))
        self.assertEqual(parts(book), before)
        self.assertEqual(len(most_remembered(book)[1]), 2)
