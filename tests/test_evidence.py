import itertools
import unittest

from fewestheld.books import Book
from fewestheld.errors import InvalidRow, TooMany, UnknownName
from fewestheld.evidence import Evidence, check_evidence, evidence
from fewestheld.least import is_least, least
from tests.samples import (again, all_there_are, answer_plainly, crossed_book, doubled, idle_book, one_place, parts,
                           random_book, read_plainly, rest_lengths, set_book, twice, two_words)


def least_books():
    found = [twice(), again(), set_book(), two_words(), one_place(), least(crossed_book()), least(idle_book())]
    return (found + [least(random_book(seed, most_places=5)) for seed in range(40)] +
            [least(random_book(seed, words=("u", "v"), most_places=5)) for seed in range(15)])


def wanted_apart(book):
    return [(one[0], other[0], tuple(zip(range(1, one[1] + 1), order)))
            for one, other in itertools.combinations(book.places, 2) if one[1] == other[1]
            for order in itertools.permutations(range(1, one[1] + 1))]


def wanted_needed(book):
    return [(name, slot) for name, slots, _ in book.places for slot in range(1, slots + 1)]


def shows_apart(book, one, other, pairs, rest):
    held = [f"s{slot}" for slot in range(1, len(pairs) + 1)]
    matched = {slot: own for own, slot in pairs}
    other_held = [f"s{matched[slot]}" for slot in range(1, len(pairs) + 1)]
    return answer_plainly(book, rest, one, held) != answer_plainly(book, rest, other, other_held)


def shows_needed(book, place, slot, rest):
    held = [f"s{number}" for number in range(1, book.slots(place) + 1)]
    changed = [f"t{slot}" if name == f"s{slot}" else name for name in held]
    return answer_plainly(book, rest, place, held) != answer_plainly(book, rest, place, changed)


def without(rows, at):
    return rows[:at] + rows[at + 1:]


class TestEvidence(unittest.TestCase):
    """Points 43 and 44: what is found."""

    def test_one_tuple_each_in_order(self):
        for book in least_books():
            told = evidence(book)
            self.assertEqual([lead[0] for lead in told.leads], list(book.place_names))
            self.assertEqual([item[:3] for item in told.apart], wanted_apart(book))
            self.assertEqual([item[:2] for item in told.needed], wanted_needed(book))

    def test_rows_and_rests_show_what_they_should(self):
        for book in least_books():
            told = evidence(book)
            self.assertTrue(all(read_plainly(book, row)[0] == place for place, row in told.leads))
            self.assertTrue(all(shows_apart(book, *item) for item in told.apart))
            self.assertTrue(all(shows_needed(book, *item) for item in told.needed))
            self.assertIs(check_evidence(book, told), True)

    def test_rests_are_shortest(self):
        for book in least_books():
            lengths = rest_lengths(book)
            told = evidence(book)
            for one, other, pairs, rest in told.apart:
                self.assertEqual(len(rest), lengths[(one, other, pairs)])
            for place, slot, rest in told.needed:
                others = tuple((own, own) for own in range(1, book.slots(place) + 1) if own != slot)
                self.assertEqual(len(rest), lengths[(place, place, others)])

    def test_none_for_other_books(self):
        for book in (idle_book(), crossed_book(), doubled(twice(), 1), doubled(again(), 2), doubled(set_book(), 3)):
            self.assertIsNone(evidence(book))
        for seed in range(60):
            book = random_book(seed)
            self.assertIs(evidence(book) is None, not is_least(book))

    def test_it_is_made_of_tuples(self):
        told = evidence(set_book())
        for field in (told.leads, told.apart, told.needed):
            self.assertIsInstance(field, list)
            self.assertTrue(field)
            for item in field:
                self.assertIsInstance(item, tuple)
                self.assertIsInstance(item[-1], tuple)
                self.assertTrue(all(isinstance(read, tuple) for read in item[-1]))
                hash(item)

    def test_limits(self):
        for book in least_books()[:20]:
            many = all_there_are(book)
            self.assertEqual(evidence(book, limit=many).apart, evidence(book).apart)
        for book in (set_book(), two_words()):
            for limit in (0, 1, 5):
                with self.assertRaises(TooMany) as caught:
                    evidence(book, limit=limit)
                self.assertEqual(caught.exception.limit, limit)

    def test_long_rests_and_many_places(self):
        places = [(f"n{number}", 0, number == 39) for number in range(40)]
        rules = [(f"n{number}", "w", 0, f"n{(number + 1) % 40}", ()) for number in range(40)]
        told = evidence(Book(words=["w"], places=places, start="n0", rules=rules))
        self.assertEqual([len(row) for _, row in told.leads], list(range(40)))
        self.assertEqual([len(rest) for _, _, _, rest in told.apart],
                         [39 - other for _, other in itertools.combinations(range(40), 2)])


class TestCheckEvidence(unittest.TestCase):
    """Point 44: what is checked."""

    def setUp(self):
        self.book = set_book()
        self.told = evidence(self.book)

    def check(self, leads=None, apart=None, needed=None):
        told = Evidence(self.told.leads if leads is None else leads, self.told.apart if apart is None else apart,
                        self.told.needed if needed is None else needed)
        return check_evidence(self.book, told)

    def test_a_tuple_left_out(self):
        for book in least_books():
            told = evidence(book)
            for at in range(len(told.leads)):
                changed = Evidence(without(told.leads, at), told.apart, told.needed)
                self.assertIs(check_evidence(book, changed), False)
            for at in range(len(told.apart)):
                changed = Evidence(told.leads, without(told.apart, at), told.needed)
                self.assertIs(check_evidence(book, changed), False)
            for at in range(len(told.needed)):
                changed = Evidence(told.leads, told.apart, without(told.needed, at))
                self.assertIs(check_evidence(book, changed), False)

    def test_nothing_at_all(self):
        self.assertIs(check_evidence(self.book, Evidence([], [], [])), False)
        self.assertIs(check_evidence(one_place(), Evidence([("p", [])], [], [])), True)
        self.assertIs(check_evidence(one_place(), Evidence([], [], [])), False)

    def test_the_order_does_not_matter(self):
        self.assertIs(self.check(self.told.leads[::-1], self.told.apart[::-1], self.told.needed[::-1]), True)

    def test_a_rest_that_shows_nothing(self):
        for at, item in enumerate(self.told.needed):
            for rest in ((), (("in", "x"),)):
                wrong = item[:2] + (rest,)
                self.assertIs(self.check(needed=without(self.told.needed, at) + [wrong]), False)
        for at, item in enumerate(self.told.apart):
            wrong = item[:3] + ((("in", "x"),),)
            self.assertIs(self.check(apart=without(self.told.apart, at) + [wrong]), False)

    def test_the_last_one_counts_of_apart_and_needed(self):
        for item in self.told.needed:
            wrong = item[:2] + ((),)
            self.assertIs(self.check(needed=self.told.needed + [wrong]), False)
            self.assertIs(self.check(needed=[wrong] + self.told.needed), True)
            self.assertIs(self.check(needed=self.told.needed + [wrong, item]), True)
        for item in self.told.apart:
            wrong = item[:3] + ((("in", "x"),),)
            self.assertIs(self.check(apart=self.told.apart + [wrong]), False)
            self.assertIs(self.check(apart=[wrong] + self.told.apart), True)
            self.assertIs(self.check(apart=self.told.apart + [wrong, item]), True)

    def test_any_one_is_enough_of_leads(self):
        wrong = [(place, [("in", "x"), ("in", "x"), ("in", "y"), ("in", "y")]) for place in self.book.place_names]
        self.assertIs(self.check(leads=wrong), False)
        self.assertIs(self.check(leads=wrong + self.told.leads), True)
        self.assertIs(self.check(leads=self.told.leads + wrong), True)

    def test_tuples_exchanged(self):
        leads = [(place, row) for (place, _), (_, row) in zip(self.told.leads, self.told.leads[::-1])]
        self.assertIs(self.check(leads=leads), False)
        book = least(crossed_book())
        told = evidence(book)
        rests = [rest for _, _, rest in told.needed]
        needed = [(place, slot, rest) for (place, slot, _), rest in zip(told.needed, rests[1:] + rests[:1])]
        wanted = all(shows_needed(book, *item) for item in needed)
        self.assertFalse(wanted)
        self.assertIs(check_evidence(book, Evidence(told.leads, told.apart, needed)), False)

    def test_each_matching_is_asked_for(self):
        # Two places with two slots each, which the answer tells apart: the empty rest will do for both matchings.
        items = [item for item in self.told.apart if item[:2] == ("both", "hit")]
        self.assertEqual([item[2] for item in items], [((1, 1), (2, 2)), ((1, 2), (2, 1))])
        for item in items:
            self.assertIs(self.check(apart=[other for other in self.told.apart if other != item]), False)

    def test_what_stands_for_nothing_counts_for_nothing(self):
        read = [("in", "s1")]
        leads = [("x", read), ("in", []), ("", read)]
        apart = [("hit", "both", ((1, 1), (2, 2)), []), ("both", "hit", ((1, 1),), read), ("both", "both", (), []),
                 ("both", "hit", (), []), ("both", "hit", ((2, 2), (1, 1)), read), ("both", "x", (), []),
                 ("both", "hit", ((1, 1), (2, 3)), read), ("both", "hit", ((1, 1), (2, 1)), read),
                 ("one", "both", ((1, 1),), []), ("both", "hit", ((1,), (2, 2, 2)), read)]
        needed = [("both", 0, []), ("both", 3, []), ("x", 1, []), ("s", 1, read), ("both", -1, read), ("one", 7, [])]
        self.assertIs(self.check(leads + self.told.leads, apart + self.told.apart, needed + self.told.needed), True)
        self.assertIs(self.check(self.told.leads + leads, self.told.apart + apart, self.told.needed + needed), True)
        self.assertIs(self.check(apart=apart), False)
        self.assertIs(self.check(needed=needed), False)
        self.assertIs(self.check(leads=leads), False)

    def test_a_turned_pair_of_places_does_not_count(self):
        book = set_book()
        told = evidence(book)
        turned = [(other, one, tuple(sorted((b, a) for a, b in pairs)), rest) for one, other, pairs, rest in told.apart]
        self.assertIs(check_evidence(book, Evidence(told.leads, turned, told.needed)), False)
        self.assertIs(check_evidence(book, Evidence(told.leads, turned + told.apart, told.needed)), True)

    def test_no_evidence_for_a_book_that_is_not_least(self):
        # All rests of up to four reads with the names of slots are tried for one slot that is idle.
        book = idle_book()
        for many in range(4):
            for names in itertools.product(("s1", "t1", "x"), repeat=many):
                rest = [("in", name) for name in names]
                told = Evidence([(name, []) for name in book.place_names], [], [("end", 1, rest)])
                self.assertFalse(shows_needed(book, "end", 1, rest))
                self.assertIs(check_evidence(book, told), False)

    def test_names_in_rests(self):
        # The rest reads the names of the slots as s1, t1 and so on, and all others are new.
        book = again()
        leads = [("start", []), ("one", [("in", "s1")]), ("again", [("in", "bob"), ("in", "bob")])]
        apart = [("start", "again", (), [])]
        for rest, right in (([("in", "s1")], True), ([("in", "t1")], True), ([("in", "s2")], False), ([], False),
                            ([("in", "x"), ("in", "s1")], True), ([("in", "s1"), ("in", "t1")], False)):
            self.assertIs(check_evidence(book, Evidence(leads, apart, [("one", 1, rest)])), right)

    def test_strange_words(self):
        bad = [("in", "A"), ("out", "a"), ("up", "a")]
        for field in range(3):
            for item in self.items(bad)[field]:
                fields = [list(self.told.leads), list(self.told.apart), list(self.told.needed)]
                fields[field].append(item)
                with self.assertRaises(UnknownName) as caught:
                    check_evidence(self.book, Evidence(*fields))
                self.assertEqual(caught.exception.name, "out")

    def items(self, row):
        """Tuples with a row for each field, the last ones for what the book does not have."""
        return ([("s", row), ("x", row)],
                [("s", "hit", (), row), ("x", "y", (), row), ("both", "hit", ((1, 1),), row), ("s", "s", (), row)],
                [("one", 1, row), ("one", 2, row), ("x", 1, row)])

    def test_what_is_no_name(self):
        for name in ("A", "", "1a", "a" * 13, "a b"):
            bad = [("in", "a"), ("in", name)]
            for field in range(3):
                for item in self.items(bad)[field]:
                    fields = [list(self.told.leads), list(self.told.apart), list(self.told.needed)]
                    fields[field].append(item)
                    with self.assertRaises(InvalidRow):
                        check_evidence(self.book, Evidence(*fields))

    def test_the_order_of_the_errors(self):
        strange, none = [("in", "A"), ("out", "a")], [("in", "B")]
        other = [("up", "a")]
        cases = [(([("x", strange), ("x", none)], [], []), "out"), (([("x", none), ("x", strange)], [], []), None),
                 (([("x", other)], [("x", "y", (), strange)], [("x", 1, none)]), "up"),
                 (([], [("x", "y", (), strange)], [("x", 1, other)]), "out"),
                 (([], [("x", "y", (), none)], [("x", 1, other)]), None), (([], [], [("x", 1, other)]), "up"),
                 (([("x", none)], [("x", "y", (), strange)], [("x", 1, other)]), None)]
        for fields, name in cases:
            with self.assertRaises(InvalidRow if name is None else UnknownName) as caught:
                check_evidence(self.book, Evidence(*fields))
            if name is not None:
                self.assertEqual(caught.exception.name, name)

    def test_no_search_for_a_book_with_many_matchings(self):
        # Looking through all matchings of 30 places with six slots would take long.
        places = [("s", 0, False)] + [(f"n{at}", min(at, 6), False) for at in range(1, 36)]
        rules = [(name, "w", case, name, tuple(range(1, slots + 1)))
                 for name, slots, _ in places for case in range(slots + 1)]
        book = Book(words=["w"], places=places, start="s", rules=rules)
        self.assertIs(check_evidence(book, Evidence([(name, []) for name in book.place_names], [], [])), False)


class TestCopies(unittest.TestCase):
    def test_evidence_copies_what_it_is_given(self):
        row, pairs, rest, last = [["in", "a"]], [[1, 1]], [["in", "b"]], [["in", "c"]]
        leads, apart, needed = [["p", row]], [["p", "q", pairs, rest]], [["p", 1, last]]
        told = Evidence(leads, apart, needed)
        row.append(["in", "x"])
        pairs[0][0] = 2
        rest[0][1] = "y"
        last.clear()
        leads.append(leads[0])
        apart[0][0] = "z"
        needed.clear()
        self.assertEqual(told.leads, [("p", (("in", "a"),))])
        self.assertEqual(told.apart, [("p", "q", ((1, 1),), (("in", "b"),))])
        self.assertEqual(told.needed, [("p", 1, (("in", "c"),))])

    def test_arguments_stay(self):
        book = set_book()
        before = parts(book)
        told = evidence(book)
        fields = (list(told.leads), list(told.apart), list(told.needed))
        check_evidence(book, told)
        self.assertEqual((told.leads, told.apart, told.needed), fields)
        self.assertEqual(parts(book), before)
        told.apart.clear()
        self.assertEqual(evidence(book).apart, fields[1])
