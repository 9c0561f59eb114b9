import copy
import unittest

from fewestheld.books import Book
from fewestheld.errors import InvalidQuestion, InvalidRow, TooMany, UnknownName
from fewestheld.matchings import (agree, behind, composed, full, is_closed, is_matching, kinds, matchings, reached,
                                  steps, triple_of, turned)
from tests.samples import (again, behind_plainly, idle_book, kind_rows, matchings_plainly, one_place, random_book,
                           read_plainly, twice, two_words)


def pairs_of_books():
    """Pairs of books with the same words."""
    found = [(twice(), twice()), (twice(), again()), (again(), again((0,))), (two_words(), two_words())]
    for seed in range(25):
        found.append((random_book(seed, words=("u", "v")), random_book(seed + 100, words=("u", "v"))))
    return found


def all_triples(first, second):
    return [(one[0], other[0], pairs) for one in first.places for other in second.places
            for pairs in matchings(one[1], other[1])]


class TestMatchings(unittest.TestCase):
    """Point 19."""

    def test_in_order(self):
        self.assertEqual(matchings(0, 0), [()])
        self.assertEqual(matchings(0, 3), [()])
        self.assertEqual(matchings(2, 1), [(), ((1, 1),), ((2, 1),)])
        self.assertEqual(matchings(2, 2), [(), ((1, 1),), ((1, 2),), ((2, 1),), ((2, 2),), ((1, 1), (2, 2)),
                                           ((1, 2), (2, 1))])
        self.assertEqual(matchings(3, 2)[7:], [((1, 1), (2, 2)), ((1, 2), (2, 1)), ((1, 1), (3, 2)),
                                               ((1, 2), (3, 1)), ((2, 1), (3, 2)), ((2, 2), (3, 1))])

    def test_all_of_them(self):
        for one in range(4):
            for other in range(4):
                self.assertEqual(matchings(one, other), matchings_plainly(one, other))
        self.assertEqual(len(matchings(6, 6)), 13327)

    def test_is_matching(self):
        for one in range(4):
            for other in range(4):
                for told in matchings(3, 3):
                    fits = all(slot <= one and matched <= other for slot, matched in told)
                    self.assertIs(is_matching(one, other, told), fits)

    def test_is_no_matching(self):
        for pairs in [((2, 2), (1, 1)), ((1, 1), (1, 1)), ((1, 1), (1, 2)), ((1, 1), (2, 1)), ((0, 1),), ((1, 0),),
                      ((3, 1),), ((1, 3),), ((-1, 1),), ((1, -1),), ((1, 1), (2, 3)), ((0, 0),), ((1, 1, 1),),
                      ((1,),), ((),)]:
            self.assertIs(is_matching(2, 2, pairs), False, pairs)
        self.assertIs(is_matching(0, 0, ((1, 1),)), False)

    def test_full(self):
        self.assertEqual(full(0), ())
        self.assertEqual(full(3), ((1, 1), (2, 2), (3, 3)))


class TestTurnedAndComposed(unittest.TestCase):
    """Point 20."""

    def test_turned(self):
        self.assertEqual(turned(()), ())
        self.assertEqual(turned(((1, 2), (2, 1), (3, 4))), ((1, 2), (2, 1), (4, 3)))
        self.assertEqual(turned(((1, 3), (2, 1))), ((1, 2), (3, 1)))
        for told in matchings(3, 2):
            self.assertIs(is_matching(2, 3, turned(told)), True)
            self.assertEqual(turned(turned(told)), told)

    def test_composed(self):
        self.assertEqual(composed((), ((1, 1),)), ())
        self.assertEqual(composed(((1, 1),), ()), ())
        self.assertEqual(composed(((1, 2), (2, 3), (3, 1)), ((1, 1), (3, 2))), ((2, 2), (3, 1)))
        for one in matchings(3, 2):
            self.assertEqual(composed(full(3), one), one)
            self.assertEqual(composed(one, full(2)), one)
            for other in matchings(2, 3):
                wanted = sorted((slot, end) for slot, middle in one for start, end in other if middle == start)
                self.assertEqual(composed(one, other), tuple(wanted))
                self.assertEqual(turned(composed(one, other)), composed(turned(other), turned(one)))


class TestKinds(unittest.TestCase):
    """Point 21."""

    def test_kinds(self):
        self.assertEqual(kinds(0, 0, ()), [(0, 0)])
        self.assertEqual(kinds(2, 2, ()), [(1, 0), (2, 0), (0, 1), (0, 2), (0, 0)])
        self.assertEqual(kinds(2, 2, ((1, 2), (2, 1))), [(1, 2), (2, 1), (0, 0)])
        self.assertEqual(kinds(1, 3, ((1, 2),)), [(1, 2), (0, 1), (0, 3), (0, 0)])
        self.assertEqual(kinds(3, 1, ((2, 1),)), [(1, 0), (2, 1), (3, 0), (0, 0)])


class TestTriples(unittest.TestCase):
    """Points 22 to 27."""

    def test_behind(self):
        first = two_words()
        self.assertEqual(behind(first, first, ("one", "one", ((1, 1),)), "put", (0, 0)),
                         ("two", "two", ((1, 1), (2, 2))))
        self.assertEqual(behind(first, first, ("one", "one", ()), "put", (0, 0)), ("two", "two", ((1, 1),)))
        self.assertEqual(behind(first, first, ("one", "one", ()), "put", (1, 0)), ("one", "two", ((1, 1),)))
        self.assertEqual(behind(first, first, ("one", "one", ()), "put", (0, 1)), ("two", "one", ((1, 1),)))
        self.assertEqual(behind(first, first, ("two", "two", ((1, 1),)), "ask", (0, 2)), ("two", "one", ((2, 1),)))
        self.assertEqual(behind(first, first, ("two", "two", ((1, 2),)), "put", (2, 0)),
                         ("two", "two", ((1, 2), (2, 1))))
        self.assertEqual(behind(first, first, ("zero", "one", ()), "ask", (0, 1)), ("zero", "zero", ()))

    def test_against_reading_real_names(self):
        for first, second in pairs_of_books():
            for triple in all_triples(first, second):
                told = steps(first, second, triple)
                wanted = []
                for word in first.words:
                    wanted.extend((word, goal) for _, goal in behind_plainly(first, second, triple, word))
                self.assertEqual([(word, goal) for word, _, goal in told], wanted)
                slots = (first.slots(triple[0]), second.slots(triple[1]))
                names = [(word, kind) for word in first.words for kind in kinds(*slots, triple[2])]
                self.assertEqual([(word, kind) for word, kind, _ in told], names)
                for word, kind, goal in told:
                    self.assertEqual(behind(first, second, triple, word, kind), goal)
                    self.assertIs(is_matching(first.slots(goal[0]), second.slots(goal[1]), goal[2]), True)

    def test_triple_of(self):
        for first, second in pairs_of_books():
            for row in kind_rows(first.words, 4)[::11]:
                place, held = read_plainly(first, row)
                other, other_held = read_plainly(second, row)
                pairs = tuple((slot, matched) for slot, name in enumerate(held, 1)
                              for matched, same in enumerate(other_held, 1) if name == same)
                self.assertEqual(triple_of(first, second, row), (place, other, pairs))
        self.assertEqual(triple_of(twice(), again(), []), ("s", "start", ()))

    def test_behind_a_further_read(self):
        first, second = random_book(3, words=("u", "v")), random_book(8, words=("u", "v"))
        for row in kind_rows(first.words, 4)[::3]:
            goals = [step[2] for step in steps(first, second, triple_of(first, second, row[:3]))]
            self.assertIn(triple_of(first, second, row), goals)

    def test_agree(self):
        first, second = twice(), again()
        for triple in all_triples(first, second):
            self.assertIs(agree(first, second, triple), (triple[0] == "yes") == (triple[1] == "again"))
        self.assertIs(agree(twice(), one_place("on"), ("one", "p", ((9, 9),))), True)
        self.assertIs(agree(twice(), one_place("on", True), ("one", "p", ())), False)

    def test_reached(self):
        for first, second in pairs_of_books()[:12]:
            for triple in all_triples(first, second)[::5]:
                found = reached(first, second, triple)
                self.assertEqual(found[0], triple)
                self.assertEqual(len(set(found)), len(found))
                wanted, ahead = {triple}, [triple]
                while ahead:
                    one = ahead.pop()
                    for word in first.words:
                        for _, goal in behind_plainly(first, second, one, word):
                            if goal not in wanted:
                                wanted.add(goal)
                                ahead.append(goal)
                self.assertEqual(set(found), wanted)
                self.assertEqual(len(reached(first, second, triple, limit=len(wanted))), len(wanted))
                with self.assertRaises(TooMany) as caught:
                    reached(first, second, triple, limit=len(wanted) - 1)
                self.assertEqual(caught.exception.limit, len(wanted) - 1)

    def test_reached_goes_on_behind_unlike_answers(self):
        found = reached(twice(), twice().turned(), ("s", "s", ()))
        self.assertEqual(sorted(found), [("one", "one", ((1, 1),)), ("s", "s", ()), ("yes", "yes", ((1, 1),))])

    def test_is_closed(self):
        book = twice()
        closed = [("s", "s", ()), ("one", "one", ((1, 1),)), ("yes", "yes", ((1, 1),))]
        self.assertIs(is_closed(book, book, closed), True)
        self.assertIs(is_closed(book, book, closed[::-1]), True)
        self.assertIs(is_closed(book, book, closed + closed[1:]), True)
        self.assertIs(is_closed(book, book, closed[1:]), True)
        self.assertIs(is_closed(book, book, []), True)
        self.assertIs(is_closed(book, book, closed[:2]), False)
        self.assertIs(is_closed(book, book, closed[:1]), False)
        self.assertIs(is_closed(book, book, closed[::2]), False)
        self.assertIs(is_closed(book, book.turned(), closed), False)
        self.assertIs(is_closed(book, book.with_answer("yes", False), closed), False)
        self.assertIs(is_closed(book, book, closed + [("one", "yes", ((1, 1),))]), False)

    def test_is_closed_needs_all_words(self):
        rules = [("p", "u", 0, "p", ()), ("p", "v", 0, "q", ()), ("q", "u", 0, "q", ()), ("q", "v", 0, "q", ())]
        book = Book(words=["u", "v"], places=[("p", 0, True), ("q", 0, True)], start="p", rules=rules)
        self.assertIs(is_closed(book, book, [("p", "p", ())]), False)
        self.assertIs(is_closed(book, book, [("p", "p", ()), ("q", "q", ())]), True)

    def test_what_is_reached_is_closed_if_it_agrees(self):
        for first, second in pairs_of_books():
            found = reached(first, second, (first.start, second.start, ()))
            fine = all(agree(first, second, triple) for triple in found)
            self.assertIs(is_closed(first, second, found), fine)
            for at in range(1, len(found)):
                self.assertIs(is_closed(first, second, found[:at] + found[at + 1:]), False)


class TestErrors(unittest.TestCase):
    """Point 28."""

    def unknown(self, name, call, *arguments):
        with self.assertRaises(UnknownName) as caught:
            call(*arguments)
        self.assertEqual(caught.exception.name, name)

    def test_unlike_words_come_first(self):
        book, strange = twice(), one_place("on")
        for other in (strange, two_words()):
            for call in (lambda: steps(book, other, ("x", "y", ((9, 9),))),
                         lambda: reached(book, other, ("x", "y", ((9, 9),)), limit=0),
                         lambda: is_closed(book, other, [("x", "y", ((9, 9),))]),
                         lambda: is_closed(book, other, []),
                         lambda: triple_of(book, other, []),
                         lambda: triple_of(book, other, [("zz", "A")])):
                with self.assertRaises(InvalidQuestion):
                    call()

    def test_words_in_another_order(self):
        rules = [("p", word, 0, "p", ()) for word in ("put", "ask")]
        book = Book(words=["ask", "put"], places=[("p", 0, True)], start="p", rules=rules)
        with self.assertRaises(InvalidQuestion):
            triple_of(two_words(), book, [])

    def test_places(self):
        first, second = twice(), again()
        for call in (steps, reached, agree):
            self.unknown("x", call, first, second, ("x", "y", ((9, 9),)))
            self.unknown("y", call, first, second, ("one", "y", ((9, 9),)))
            self.unknown("one", call, first, second.renamed("one", "uno"), ("one", "one", ()))
            self.unknown("again", call, first, second, ("again", "s", ()))
            self.unknown("s", call, first, second, ("one", "s", ()))

    def test_no_matching(self):
        first, second = twice(), again()
        for pairs in [((1, 2),), ((2, 1),), ((1, 1), (1, 1)), ((0, 0),)]:
            for call in (steps, reached):
                with self.assertRaises(InvalidQuestion):
                    call(first, second, ("one", "one", pairs))
            with self.assertRaises(InvalidQuestion):
                reached(first, second, ("one", "one", pairs), limit=0)

    def test_rows(self):
        first, second = twice(), again()
        self.unknown("on", triple_of, first, second, [("in", "A"), ("on", "b"), ("off", "c")])
        for name in ["", "A", "1", "abcdefghijklm"]:
            with self.assertRaises(InvalidRow):
                triple_of(first, second, [("in", "a"), ("in", name)])

    def test_triples_of_a_list_one_by_one(self):
        first, second = twice(), again()
        fine, unlike = ("s", "start", ()), ("yes", "one", ())
        bad = ("one", "one", ((1, 2),))
        with self.assertRaises(InvalidQuestion):
            is_closed(first, second, [fine, bad, ("x", "y", ())])
        self.unknown("x", is_closed, first, second, [fine, ("x", "y", ()), bad])
        self.unknown("y", is_closed, first, second, [fine, ("one", "y", ((9, 9),)), bad])
        self.unknown("x", is_closed, first, second, [unlike, ("x", "start", ())])
        with self.assertRaises(InvalidQuestion):
            is_closed(first, second, [unlike, bad])

    def test_arguments_stay_and_lists_are_new(self):
        book = twice()
        triples = [("s", "s", ()), ("one", "one", ((1, 1),)), ("yes", "yes", ((1, 1),))]
        before = copy.deepcopy(triples)
        row = [("in", "a"), ("in", "b")]
        is_closed(book, book, triples)
        triple_of(book, book, row)
        self.assertEqual(triples, before)
        self.assertEqual(row, [("in", "a"), ("in", "b")])
        for call in (lambda: matchings(2, 2), lambda: kinds(2, 2, ()), lambda: steps(book, book, triples[1]),
                     lambda: reached(book, book, triples[0])):
            told = call()
            told.append(1)
            self.assertEqual(call(), told[:-1])


class TestExamples(unittest.TestCase):
    def test_the_examples_of_the_interface(self):
        self.assertEqual(matchings(1, 2), [(), ((1, 1),), ((1, 2),)])
        self.assertEqual(kinds(2, 1, ((2, 1),)), [(1, 0), (2, 1), (0, 0)])
        self.assertEqual(composed(((1, 2), (2, 1)), ((1, 1),)), ((2, 1),))

    def test_a_book_with_idle_slots(self):
        book = idle_book()
        told = steps(book, book, ("two", "two", ((2, 2),)))
        self.assertEqual(told, [("in", (1, 0), ("two", "two", ((2, 2),))), ("in", (2, 2), ("end", "end", ((1, 1),))),
                                ("in", (0, 1), ("two", "two", ((2, 2),))), ("in", (0, 0), ("two", "two", ((2, 2),)))])
