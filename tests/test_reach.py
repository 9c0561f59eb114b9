import unittest

from fewestheld.books import Book
from fewestheld.errors import UnknownName
from fewestheld.reach import ever_reached, fewest_names, first_answer, first_row_to, never_reached
from tests.samples import (again, answer_plainly, crossed_book, doubled, idle_book, kind_rows, one_place, parts,
                           random_book, reached_plainly, read_plainly, set_book, twice, two_words)


def books():
    return ([twice(), again(), idle_book(), set_book(), two_words(), crossed_book(), one_place()] +
            [random_book(seed, most_slots=3, most_places=5) for seed in range(40)] +
            [random_book(seed, words=("u", "v"), most_places=5) for seed in range(20)] +
            [doubled(random_book(seed), seed) for seed in range(20)])


def rows_up_to(book):
    """The rows of all kinds up to some length, in the order of point 52."""
    most = 6 if len(book.words) == 1 else 5
    return [row for many in range(most + 1) for row in kind_rows(book.words, many)]


def names_in(row):
    return len({name for _, name in row})


def with_strange_places(book):
    """The book with places that no row reaches, of more slots and either answer, some of which lead into it."""
    places = [("u1", 6, True), *book.places, ("u2", 0, False), ("u3", 1, True)]
    rules = list(book.rules)
    for word in book.words:
        rules += [("u1", word, case, book.start, ()) for case in range(7)]
        rules += [("u2", word, 0, "u3", (0,)), ("u3", word, 0, "u2", ()), ("u3", word, 1, "u2", ())]
    return Book(words=book.words, places=places, start=book.start, rules=rules)


def escape(names):
    """A book that says yes once so many different names were read, all of them held until then."""
    places = [(f"n{held}", held, False) for held in range(names)] + [("end", 0, True)]
    rules = [("end", "w", 0, "end", ())]
    for held in range(names):
        every = tuple(range(1, held + 1))
        last = held == names - 1
        rules.append((f"n{held}", "w", 0, "end" if last else f"n{held + 1}", () if last else every + (0,)))
        rules += [(f"n{held}", "w", case, f"n{held}", every) for case in every]
    return Book(words=["w"], places=places, start="n0", rules=rules)


class TestPlaces(unittest.TestCase):
    """Points 51, 53 and 56."""

    def test_the_places_in_the_order_of_the_book(self):
        for book in books():
            there = reached_plainly(book)
            self.assertEqual(ever_reached(book), [name for name in book.place_names if name in there])
            self.assertEqual(never_reached(book), [name for name in book.place_names if name not in there])
        self.assertEqual(ever_reached(idle_book()), ["start", "two", "end", "one"])
        self.assertEqual((never_reached(crossed_book()), never_reached(twice())), (["far"], []))
        self.assertEqual(ever_reached(crossed_book()), ["cross", "s", "one", "pair", "end"])

    def test_the_start_by_the_empty_row(self):
        for book in books():
            self.assertEqual(first_row_to(book, book.start), [])
        self.assertEqual(ever_reached(one_place()), ["p"])

    def test_a_place_without_rules_that_lead_to_it(self):
        self.assertIsNone(first_row_to(crossed_book(), "far"))
        moved = Book(words=["w"], places=[("b", 0, True), ("a", 0, True)], start="a",
                     rules=[("a", "w", 0, "a", ()), ("b", "w", 0, "a", ())])
        self.assertEqual((ever_reached(moved), never_reached(moved)), (["a"], ["b"]))


class TestFirstRow(unittest.TestCase):
    """Points 51 to 53, 57 and 58."""

    def test_against_all_rows(self):
        for book in books():
            wanted = {}
            for row in rows_up_to(book):
                wanted.setdefault(read_plainly(book, row)[0], row)
            for name in book.place_names:
                told = first_row_to(book, name)
                if name in wanted:
                    self.assertEqual(told, wanted[name])
                else:
                    self.assertTrue(told is None or len(told) > len(rows_up_to(book)[-1]))
                if told is not None:
                    self.assertLess(len(told), len(book.places))
                    self.assertEqual(read_plainly(book, told)[0], name)

    def test_words_come_ahead_of_names(self):
        places = [("s", 0, False), ("t", 1, False), ("x", 0, True), ("y", 0, True)]
        rules = [("s", "v", 0, "t", (0,)), ("s", "u", 0, "t", (0,)), ("t", "v", 0, "x", ()), ("t", "v", 1, "y", ()),
                 ("t", "u", 0, "y", ()), ("t", "u", 1, "x", ())]
        rules += [(name, word, 0, name, ()) for name in "xy" for word in "uv"]
        book = Book(words=["v", "u"], places=places, start="s", rules=rules)
        self.assertEqual(first_row_to(book, "x"), [("v", "a1"), ("v", "a2")])
        self.assertEqual(first_row_to(book, "y"), [("v", "a1"), ("v", "a1")])
        book = Book(words=["u", "v"], places=places, start="s", rules=rules)
        self.assertEqual(first_row_to(book, "x"), [("u", "a1"), ("u", "a1")])
        self.assertEqual(first_row_to(book, "y"), [("u", "a1"), ("u", "a2")])

    def test_names_that_are_in_no_slot_come_by_their_numbers(self):
        # The name a1 is forgotten behind the second read, and comes ahead of a2, which is held, and of a new one.
        places = [("s", 0, False), ("t", 1, False), ("u", 1, False), ("x", 0, True)]
        rules = [("s", "w", 0, "t", (0,)), ("t", "w", 0, "u", (0,)), ("t", "w", 1, "t", (1,)), ("u", "w", 0, "x", ()),
                 ("u", "w", 1, "x", ()), ("x", "w", 0, "x", ())]
        book = Book(words=["w"], places=places, start="s", rules=rules)
        self.assertEqual(first_row_to(book, "x"), [("w", "a1"), ("w", "a2"), ("w", "a1")])
        held = book.with_rule(("u", "w", 0, "u", (1,)))
        self.assertEqual(first_row_to(held, "x"), [("w", "a1"), ("w", "a2"), ("w", "a2")])

    def test_the_cases_of_a_place_are_not_the_order_of_the_names(self):
        # The slots of the place hold a2 and a1, in this order.
        places = [("s", 0, False), ("t", 1, False), ("u", 2, False), ("x", 0, True)]
        rules = [("s", "w", 0, "t", (0,)), ("t", "w", 0, "u", (0, 1)), ("t", "w", 1, "t", (1,)),
                 ("u", "w", 0, "u", (1, 2)), ("u", "w", 1, "x", ()), ("u", "w", 2, "x", ()), ("x", "w", 0, "x", ())]
        book = Book(words=["w"], places=places, start="s", rules=rules)
        self.assertEqual(first_row_to(book, "x"), [("w", "a1"), ("w", "a2"), ("w", "a1")])

    def test_long_rows(self):
        # The six names that were read last are held in order, and a name that is held leads nowhere.
        places = [(f"n{at}", min(at, 6), False) for at in range(60)]
        rules = []
        for at, (name, slots, _) in enumerate(places):
            every = tuple(range(1, slots + 1))
            if at == 59:
                rules.append((name, "w", 0, name, every))
            else:
                rules.append((name, "w", 0, f"n{at + 1}", every + (0,) if at < 6 else every[1:] + (0,)))
            rules += [(name, "w", case, name, every) for case in every]
        book = Book(words=["w"], places=places, start="n0", rules=rules)
        told = first_row_to(book, "n59")
        self.assertEqual(len(told), 59)
        self.assertEqual([name for _, name in told[:8]], ["a1", "a2", "a3", "a4", "a5", "a6", "a7", "a1"])
        self.assertEqual(ever_reached(book), list(book.place_names))

    def test_strange_places(self):
        for name in ("x", "", "A", "in"):
            with self.assertRaises(UnknownName) as caught:
                first_row_to(twice(), name)
            self.assertEqual(caught.exception.name, name)

    def test_other_names(self):
        table = {f"a{number}": name for number, name in enumerate(["z", "a9", "a1", "q2", "b", "c"], 1)}
        for book in books():
            for yes in (True, False):
                for row in (first_answer(book, yes=yes), (fewest_names(book, yes=yes) or (0, None))[1]):
                    if row is not None:
                        self.assertIs(answer_plainly(book, [(word, table[name]) for word, name in row]), yes)


class TestAnswers(unittest.TestCase):
    """Points 52, 54, 55 and 58."""

    def test_first_answer_against_all_rows(self):
        for book in books():
            for yes in (True, False):
                wanted = next((row for row in rows_up_to(book) if answer_plainly(book, row) is yes), None)
                told = first_answer(book, yes=yes)
                if wanted is None and told is not None:
                    self.assertGreater(len(told), len(rows_up_to(book)[-1]))
                    self.assertIs(answer_plainly(book, told), yes)
                else:
                    self.assertEqual(told, wanted)

    def test_fewest_names_against_all_rows(self):
        for book in books():
            for yes in (True, False):
                found = [row for row in rows_up_to(book) if answer_plainly(book, row) is yes]
                told = fewest_names(book, yes=yes)
                if told is None:
                    self.assertEqual(found, [])
                    continue
                names, row = told
                self.assertEqual(names_in(row), names)
                self.assertIs(answer_plainly(book, row), yes)
                self.assertTrue(all(names_in(one) >= names for one in found))
                if len(row) <= len(rows_up_to(book)[-1]):
                    self.assertEqual(row, next(one for one in found if names_in(one) == names))
                else:
                    self.assertTrue(all(names_in(one) > names for one in found))

    def test_yes_is_asked_for_if_nothing_is_told(self):
        for book in books():
            self.assertEqual(first_answer(book), first_answer(book, yes=True))
            self.assertEqual(fewest_names(book), fewest_names(book, yes=True))
        self.assertEqual(first_answer(twice()), [("in", "a1"), ("in", "a1")])
        self.assertEqual((first_answer(twice(), yes=False), fewest_names(twice(), yes=False)), ([], (0, [])))

    def test_no_row_has_the_answer(self):
        self.assertEqual((first_answer(one_place()), fewest_names(one_place())), (None, None))
        self.assertEqual((first_answer(one_place(yes=True), yes=False), fewest_names(one_place(yes=True), yes=False)),
                         (None, None))
        # A place with the answer is there, but no row reaches it.
        book = crossed_book().with_answer("end", False)
        self.assertEqual((first_answer(book), fewest_names(book)), (None, None))

    def test_the_row_for_the_fewest_names_may_be_longer(self):
        places = [("s", 0, False), ("t", 1, False), ("u", 1, False), ("v", 1, False), ("end", 0, True)]
        rules = [("s", "w", 0, "t", (0,)), ("t", "w", 0, "end", ()), ("t", "w", 1, "u", (1,)),
                 ("u", "w", 0, "s", ()), ("u", "w", 1, "v", (1,)), ("v", "w", 0, "s", ()), ("v", "w", 1, "end", ()),
                 ("end", "w", 0, "s", ())]
        book = Book(words=["w"], places=places, start="s", rules=rules)
        self.assertEqual(first_answer(book), [("w", "a1"), ("w", "a2")])
        self.assertEqual(fewest_names(book), (1, [("w", "a1")] * 4))

    def test_the_fewest_names_may_be_more_than_the_slots_of_each_place(self):
        for names in range(1, 8):
            row = [("w", f"a{number}") for number in range(1, names + 1)]
            self.assertEqual(fewest_names(escape(names)), (names, row))
            self.assertEqual(max(slots for _, slots, _ in escape(names).places), names - 1)

    def test_of_many_rows_with_as_few_names_the_first_shortest(self):
        # With two names the place is reached by a1 a2 a1 alone; a3 is in no slot, either, and not needed.
        places = [("s", 0, False), ("t", 1, False), ("u", 1, False), ("x", 0, True)]
        rules = [("s", "w", 0, "t", (0,)), ("t", "w", 0, "u", (0,)), ("t", "w", 1, "t", (1,)), ("u", "w", 0, "x", ()),
                 ("u", "w", 1, "u", (1,)), ("x", "w", 0, "x", ())]
        book = Book(words=["w"], places=places, start="s", rules=rules)
        self.assertEqual(fewest_names(book), (2, [("w", "a1"), ("w", "a2"), ("w", "a1")]))

    def test_words_in_their_order(self):
        rules = [("s", word, 0, "x", ()) for word in "uvw"] + [("x", word, 0, "x", ()) for word in "uvw"]
        book = Book(words=["v", "w", "u"], places=[("s", 0, False), ("x", 0, True)], start="s", rules=rules)
        self.assertEqual((first_answer(book), fewest_names(book)), ([("v", "a1")], (1, [("v", "a1")])))


class TestOthers(unittest.TestCase):
    """Point 56, and point 1."""

    def test_places_that_no_row_reaches_change_nothing(self):
        for book in books():
            more = with_strange_places(book)
            for yes in (True, False):
                self.assertEqual(first_answer(more, yes=yes), first_answer(book, yes=yes))
                self.assertEqual(fewest_names(more, yes=yes), fewest_names(book, yes=yes))
            self.assertEqual(ever_reached(more), ever_reached(book))
            self.assertEqual(never_reached(more), ["u1", *never_reached(book), "u2", "u3"])
            for name in book.place_names:
                self.assertEqual(first_row_to(more, name), first_row_to(book, name))
            self.assertIsNone(first_row_to(more, "u3"))

    def test_arguments_stay_and_lists_are_new(self):
        book = crossed_book()
        before = parts(book)
        ever_reached(book).clear()
        never_reached(book).clear()
        first_row_to(book, "end").clear()
        first_answer(book).clear()
        fewest_names(book)[1].clear()
        row = [("in", "a1"), ("in", "a2"), ("in", "a1")]
        self.assertEqual((first_row_to(book, "end"), first_answer(book), fewest_names(book)), (row, row, (2, row)))
        self.assertEqual((len(ever_reached(book)), never_reached(book)), (5, ["far"]))
        self.assertEqual(parts(book), before)


class TestExamples(unittest.TestCase):
    def test_the_example_of_the_interface(self):
        places = [("p", 0, False), ("q", 1, False), ("r", 0, True)]
        rules = [("p", "w", 0, "q", (0,)), ("q", "w", 0, "r", ()), ("q", "w", 1, "q", (1,)), ("r", "w", 0, "r", ())]
        book = Book(words=["w"], places=places, start="p", rules=rules)
        self.assertEqual(first_answer(book), [("w", "a1"), ("w", "a2")])
        self.assertEqual(fewest_names(book), (2, [("w", "a1"), ("w", "a2")]))
