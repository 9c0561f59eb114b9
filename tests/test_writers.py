import copy
import unittest

from fewestheld.books import Book
from fewestheld.errors import InvalidBook, InvalidQuestion, InvalidRow, TooMany, UnknownName
from fewestheld.matchings import reached
from fewestheld.runs import trace
from fewestheld.writers import (Writer, WritingSearch, is_least_writer, is_writing_list, least_writer,
                                unneeded_slots, writing_difference, writing_list, written)
from tests.samples import (again, doubled_writer, kind_rows, matchings_plainly, one_place, parts, random_writer,
                           reached_plainly, read_plainly, set_book, small_book, two_words)

NO_NAMES = ["", "A", "1", "abcdefghijklm", "a b", "a\n", 7, None]


def small_rows():
    return [("b", "in", 1, (("old", 1), ("old", 1))), ("b", "in", 0, (("new", 0), ("held", 1))),
            ("a", "in", 0, (("new", 0),))]


def small_writer():
    return Writer(small_book(), small_rows())


def echo(moves=(0,), pairs=(("was", 1),)):
    """A writer that writes the name that was read before, if another one is read, or what pairs tell."""
    rules = [("s", "in", 0, "one", (0,)), ("one", "in", 0, "one", moves), ("one", "in", 1, "one", (1,))]
    book = Book(words=["in"], places=[("s", 0, False), ("one", 1, False)], start="s", rules=rules)
    return Writer(book, [("one", "in", 0, pairs)])


def spare():
    """The writer echo with a second slot, which is not needed, and a place that no row leads to."""
    rules = [("s", "in", 0, "one", (0,)), ("one", "in", 0, "two", (1, 0)), ("one", "in", 1, "one", (1,)),
             ("two", "in", 0, "two", (2, 0)), ("two", "in", 1, "two", (2, 1)), ("two", "in", 2, "two", (1, 2)),
             ("far", "in", 0, "far", (0,)), ("far", "in", 1, "one", (1,))]
    places = [("two", 2, True), ("s", 0, False), ("far", 1, True), ("one", 1, False)]
    book = Book(words=["in"], places=places, start="s", rules=rules)
    return Writer(book, [("one", "in", 0, [("was", 1)]), ("two", "in", 0, [("was", 2)]), ("two", "in", 1, [("was", 2)])])


def crossed():
    """A writer with two places that are the same only if the slots of the one are matched crosswise.

    It keeps two names and writes the first of them whenever the second one is read.
    """
    places = [("far", 2, False), ("cross", 2, True), ("s", 0, False), ("one", 1, False), ("pair", 2, False)]
    rules = [("s", "in", 0, "one", (0,)), ("one", "in", 0, "pair", (1, 0)), ("one", "in", 1, "one", (1,)),
             ("pair", "in", 0, "cross", (2, 1)), ("pair", "in", 1, "pair", (1, 2)), ("pair", "in", 2, "cross", (2, 1)),
             ("cross", "in", 0, "cross", (1, 2)), ("cross", "in", 1, "pair", (2, 1)), ("cross", "in", 2, "pair", (2, 1)),
             ("far", "in", 0, "far", (1, 2)), ("far", "in", 1, "one", (2,)), ("far", "in", 2, "far", (2, 1))]
    book = Book(words=["in"], places=places, start="s", rules=rules)
    return Writer(book, [("pair", "in", 2, [("first", 1)]), ("cross", "in", 1, [("first", 2)])])


def swapping():
    """A writer that keeps two names and writes the other one of them: its slots may be exchanged."""
    book = set_book()
    rows = [(name, "in", case, [("other", 3 - case)]) for name in ("both", "hit") for case in (1, 2)]
    return Writer(book, rows)


def chain(many):
    """A writer whose first name is written behind so many reads, so that each of its places is needed."""
    places = [("s", 0, False)] + [(f"c{at}", 1, False) for at in range(many)]
    rules = [("s", "in", 0, "c0", (0,))]
    rules += [(f"c{at}", "in", case, f"c{(at + 1) % many}", (1,)) for at in range(many) for case in (0, 1)]
    book = Book(words=["in"], places=places, start="s", rules=rules)
    return Writer(book, [(f"c{many - 1}", "in", case, [("first", 1)]) for case in (0, 1)])


def single():
    return [small_writer(), echo(), echo((1,)), spare(), crossed(), swapping(), chain(4), Writer(one_place(), []),
            Writer(again(), []), doubled_writer(echo(), 1), doubled_writer(crossed(), 2)]


def drawn(many, first=0):
    found = [random_writer(seed) for seed in range(first, first + many)]
    return found + [random_writer(seed, words=("u", "v"), most_places=3, many=1) for seed in range(first, first + many)]


def couples():
    told = [(one, other) for one in single() for other in single()]
    told += [(writer, doubled_writer(writer, seed)) for seed, writer in enumerate(drawn(30))]
    some = [random_writer(seed, many=1) for seed in range(60)]
    told += list(zip(some, some[1:]))
    told += [(writer, changed(writer, seed)) for seed, writer in enumerate(drawn(30))]
    return told


def changed(writer, seed):
    """The writer without one of its rows."""
    rows = list(writer.rows)
    if rows:
        rows.pop(seed % len(rows))
    return Writer(writer.book, rows)


def written_plainly(writer, row, place=None, held=()):
    """What is written at each read, by the rows of the writer alone."""
    told = {tuple(line[:3]): line[3] for line in writer.rows}
    found, place = [], place or writer.book.start
    for word, name in row:
        case = held.index(name) + 1 if name in held else 0
        found.append([(text, held[source - 1] if source else name) for text, source in told.get((place, word, case), ())])
        place, held = read_plainly(writer.book, [(word, name)], place, held)
    return found


def steps_plainly(first, second, triple, word):
    """What both writers write, and the triple behind, for a read of each kind, by reading real names."""
    place, other, pairs = triple
    held = tuple(f"x{slot}" for slot in range(1, first.book.slots(place) + 1))
    match = {matched: slot for slot, matched in pairs}
    other_held = tuple(f"x{match[slot]}" if slot in match else f"y{slot}"
                       for slot in range(1, second.book.slots(other) + 1))
    found = []
    for name in list(held) + [name for name in other_held if name not in held] + ["z"]:
        read = [(word, name)]
        goal, now = read_plainly(first.book, read, place, held)
        other_goal, other_now = read_plainly(second.book, read, other, other_held)
        behind = tuple((now.index(own) + 1, other_now.index(own) + 1) for own in now if own in other_now)
        found.append((written_plainly(first, read, place, held), written_plainly(second, read, other, other_held),
                      (goal, other_goal, behind)))
    return found


def alike_plainly(writer):
    """All triples of a writer and itself from where nothing unlike is ever written, by leaving out the others."""
    book, left, goals = writer.book, set(), {}
    for one in book.places:
        for other in book.places:
            for pairs in matchings_plainly(one[1], other[1]):
                triple = (one[0], other[0], pairs)
                steps = [step for word in book.words for step in steps_plainly(writer, writer, triple, word)]
                goals[triple] = [goal for _, _, goal in steps]
                if all(told == other_told for told, other_told, _ in steps):
                    left.add(triple)
    size = None
    while size != len(left):
        size = len(left)
        left = {triple for triple in left if all(goal in left for goal in goals[triple])}
    return left


def unneeded_plainly(writer, place, good):
    slots = range(1, writer.book.slots(place) + 1)
    return [slot for slot in slots if (place, place, tuple((own, own) for own in slots if own != slot)) in good]


def needed_plainly(writer, place, good):
    left = unneeded_plainly(writer, place, good)
    return [slot for slot in range(1, writer.book.slots(place) + 1) if slot not in left]


def classes_plainly(writer):
    """The sets of same places among those that rows lead to, each with the number of its needed slots."""
    good, book = alike_plainly(writer), writer.book
    kept = {name: needed_plainly(writer, name, good) for name in reached_plainly(book)}
    found = []
    for name in book.place_names:
        if name not in kept:
            continue
        for members in found:
            first = members[0]
            if any(triple[0] == first and triple[1] == name and [pair[0] for pair in triple[2]] == kept[first]
                   and sorted(pair[1] for pair in triple[2]) == kept[name] for triple in good):
                members.append(name)
                break
        else:
            found.append([name])
    return [(members, len(kept[members[0]])) for members in found]


def rows_of(book):
    return [row for many in range(1, 7 if len(book.words) == 1 else 5) for row in kind_rows(book.words, many)]


class TestCreated(unittest.TestCase):
    """Point 85."""

    def refuse(self, *rows, book=None):
        for told in (list(rows), [list(row) for row in rows], list(rows[::-1])):
            self.assertRaises(InvalidBook, Writer, book or small_book(), told)

    def test_rows_and_pairs_as_lists(self):
        writer = Writer(small_book(), [["b", "in", 1, [["old", 1], ("old", 1)]], ("a", "in", 0, [["new", 0]])])
        self.assertEqual(writer.rows, (("a", "in", 0, (("new", 0),)), ("b", "in", 1, (("old", 1), ("old", 1)))))
        self.check_tuples(writer.rows)
        self.assertEqual(parts(writer.book), parts(small_book()))

    def check_tuples(self, rows):
        self.assertIsInstance(rows, tuple)
        for row in rows:
            self.assertIsInstance(row, tuple)
            self.assertIsInstance(row[3], tuple)
            self.assertTrue(all(isinstance(pair, tuple) for pair in row[3]))

    def test_the_order_of_the_rules(self):
        self.assertEqual([row[:3] for row in small_writer().rows], [("a", "in", 0), ("b", "in", 0), ("b", "in", 1)])
        for writer in drawn(20):
            order = [rule[:3] for rule in writer.book.rules]
            self.assertEqual([row[:3] for row in writer.rows], [key for key in order if writer.pairs(*key)])
            again_told = Writer(writer.book, list(writer.rows)[::-1])
            self.assertEqual(again_told.rows, writer.rows)
            self.check_tuples(writer.rows)

    def test_rows_with_no_pairs(self):
        writer = Writer(small_book(), [("a", "in", 0, ()), ("b", "in", 1, []), ("b", "in", 0, [("x", 1)])])
        self.assertEqual(writer.rows, (("b", "in", 0, (("x", 1),)),))
        self.assertEqual((writer.pairs("a", "in", 0), writer.pairs("b", "in", 1)), ((), ()))
        self.assertEqual(Writer(small_book(), []).rows, ())
        self.assertEqual(Writer(small_book(), ()).rows, ())

    def test_the_rows_are_copied(self):
        pairs = [["new", 0]]
        rows = [["a", "in", 0, pairs]]
        writer = Writer(small_book(), rows)
        pairs[0][1] = 1
        pairs.append(["x", 0])
        rows[0][0] = "b"
        rows.clear()
        self.assertEqual(writer.rows, (("a", "in", 0, (("new", 0),)),))
        self.assertEqual(writer.pairs("a", "in", 0), (("new", 0),))

    def test_arguments_stay(self):
        rows = [["b", "in", 0, [["x", 1], ["y", 0]]], ["a", "in", 0, []]]
        before, book = copy.deepcopy(rows), small_book()
        writer = Writer(book, rows)
        written(writer, [("in", "x")])
        self.assertEqual(rows, before)
        self.assertEqual(parts(book), parts(small_book()))

    def test_rows_that_tell_no_rule(self):
        for row in (("c", "in", 0, ()), ("a", "on", 0, ()), ("a", "in", 1, ()), ("b", "in", 2, ()), ("b", "in", -1, ()),
                    ("in", "a", 0, ()), ("", "in", 0, (("x", 0),))):
            self.refuse(row)
            self.refuse(row, ("a", "in", 0, ()))

    def test_rows_of_other_lengths(self):
        for row in (("a", "in", 0), ("a", "in", 0, (), ()), ("a",), ()):
            self.refuse(row)

    def test_two_rows_for_one_rule(self):
        self.refuse(("a", "in", 0, (("x", 0),)), ("a", "in", 0, (("x", 0),)))
        self.refuse(("a", "in", 0, (("x", 0),)), ("a", "in", 0, ()))
        self.refuse(("a", "in", 0, ()), ("b", "in", 1, ()), ("a", "in", 0, ()))
        Writer(small_book(), [("b", "in", 0, ()), ("b", "in", 1, ())])

    def test_more_than_two_pairs(self):
        self.refuse(("a", "in", 0, (("x", 0),) * 3))
        self.refuse(("b", "in", 0, (("x", 0), ("y", 1), ("z", 0), ("x", 1))))
        self.assertEqual(len(Writer(small_book(), [("a", "in", 0, (("x", 0),) * 2)]).pairs("a", "in", 0)), 2)

    def test_words_that_are_no_names(self):
        for word in NO_NAMES:
            self.refuse(("a", "in", 0, ((word, 0),)))
            self.refuse(("a", "in", 0, (("x", 0), (word, 0))))
        self.assertEqual(Writer(small_book(), [("a", "in", 0, [("in", 0), ("abcdefghijkl", 0)])]).pairs("a", "in", 0),
                         (("in", 0), ("abcdefghijkl", 0)))

    def test_sources_that_are_none(self):
        for place, case, sources in (("a", 0, (1, -1, 2)), ("b", 0, (2, -1, 7)), ("b", 1, (0, 2, -1))):
            for source in sources + ("x", None, True):
                self.refuse((place, "in", case, (("x", source),)))
                good = 1 if case else 0
                self.refuse((place, "in", case, (("x", good), ("x", source))))
        self.refuse(("a", "in", 0, (("x",),)))
        self.refuse(("a", "in", 0, (("x", 0, 0),)))

    def test_pairs(self):
        writer = small_writer()
        self.assertEqual(writer.pairs("a", "in", 0), (("new", 0),))
        self.assertEqual(writer.pairs("b", "in", 0), (("new", 0), ("held", 1)))
        self.assertEqual(writer.pairs("b", "in", 1), (("old", 1), ("old", 1)))
        self.assertEqual(Writer(small_book(), []).pairs("b", "in", 1), ())

    def test_errors_of_pairs_in_their_order(self):
        for writer in (small_writer(), Writer(small_book(), [])):
            for arguments, name in ((("c", "on", 5), "c"), (("a", "on", 5), "on"), (("", "in", 0), ""),
                                    (("b", "a", 0), "a")):
                with self.assertRaises(UnknownName) as caught:
                    writer.pairs(*arguments)
                self.assertEqual(caught.exception.name, name)
            for arguments in (("a", "in", 1), ("b", "in", 2), ("b", "in", -1)):
                self.assertRaises(InvalidQuestion, writer.pairs, *arguments)


class TestWritten(unittest.TestCase):
    """Point 86."""

    def test_no_pair_one_and_two(self):
        row = [("in", "x"), ("in", "y"), ("in", "x"), ("in", "z")]
        # Behind x the book holds x: y is written with x, and x is written twice and forgotten.
        self.assertEqual(written(small_writer(), row),
                         [[("new", "x")], [("new", "y"), ("held", "x")], [("old", "x"), ("old", "x")], [("new", "z")]])
        self.assertEqual(written(Writer(small_book(), []), row), [[], [], [], []])
        self.assertEqual(written(small_writer(), []), [])

    def test_the_same_source_twice_and_the_order(self):
        for pairs in ([("g", 1), ("h", 0)], [("h", 0), ("g", 1)], [("g", 1), ("h", 1)], [("g", 0), ("g", 0)],
                      [("g", 1), ("g", 0)]):
            told = written(echo(pairs=pairs), [("in", "x"), ("in", "y")])
            self.assertEqual(told, [[], [(word, "yx"[source]) for word, source in pairs]])

    def test_against_plain_reading(self):
        for writer in single() + drawn(30):
            for row in rows_of(writer.book)[::5]:
                told = written(writer, row)
                self.assertEqual(told, written_plainly(writer, row))
                self.assertTrue(all(isinstance(line, list) for line in told))
                self.assertTrue(all(isinstance(pair, tuple) for line in told for pair in line))

    def test_errors(self):
        for writer in (small_writer(), Writer(small_book(), [])):
            with self.assertRaises(UnknownName) as caught:
                written(writer, [("in", "A"), ("on", "x"), ("off", "x")])
            self.assertEqual(caught.exception.name, "on")
            for name in NO_NAMES[:-2]:
                self.assertRaises(InvalidRow, written, writer, [("in", "x"), ("in", name)])

    def test_arguments_stay(self):
        row = [["in", "x"], ["in", "y"]]
        before = copy.deepcopy(row)
        written(small_writer(), row).clear()
        self.assertEqual(row, before)


class TestAlike(unittest.TestCase):
    """Points 87 to 89."""

    def first_unlike(self, one, other):
        for row in rows_of(one.book):
            if written_plainly(one, row)[-1] != written_plainly(other, row)[-1]:
                return row
        return None

    def test_against_rows_one_by_one(self):
        alike = 0
        for one, other in couples():
            if one.book.words != other.book.words:
                continue
            row, told = writing_difference(one, other), writing_list(one, other)
            self.assertEqual(row is None, told is not None)
            wanted = self.first_unlike(one, other)
            if wanted is not None:
                self.assertEqual(row, wanted)
            elif row is not None:
                self.assertGreater(len(row), len(rows_of(one.book)[-1]))
                self.assertNotEqual(written_plainly(one, row)[-1], written_plainly(other, row)[-1])
                self.assertEqual(written_plainly(one, row)[:-1], written_plainly(other, row)[:-1])
            else:
                alike += 1
                self.assertIs(is_writing_list(one, other, told), True)
        self.assertGreater(alike, 60)

    def test_other_slots_and_other_places(self):
        for one in single() + drawn(30):
            for seed in range(3):
                self.assertIsNone(writing_difference(one, doubled_writer(one, seed)))
                self.assertIsNone(writing_difference(doubled_writer(one, seed), one))
        self.assertIsNone(writing_difference(echo(), spare()))
        self.assertIsNone(writing_difference(spare(), echo()))

    def test_what_can_differ(self):
        pairs = [("g", 0), ("h", 1)]
        first = [("in", "a1"), ("in", "a2")]
        for other in ([("g", 0), ("g", 1)], [("h", 1), ("g", 0)], [("g", 0)], [("h", 1)], [], [("g", 1), ("h", 0)],
                      [("g", 0), ("h", 0)], [("g", 1), ("h", 1)], [("h", 0), ("h", 1)]):
            self.assertEqual(writing_difference(echo(pairs=pairs), echo(pairs=other)), first)
            self.assertEqual(writing_difference(echo(pairs=other), echo(pairs=pairs)), first)
            self.assertIsNone(writing_list(echo(pairs=pairs), echo(pairs=other)))
        self.assertIsNone(writing_difference(echo(pairs=pairs), echo(pairs=list(pairs))))

    def test_the_names_of_the_slots(self):
        # Both write the name that is held, but they do not hold the same one.
        self.assertEqual(writing_difference(echo(), echo((1,))), [("in", "a1"), ("in", "a2"), ("in", "a1")])
        # What is written differs at a later read alone, by which name it is.
        self.assertEqual(writing_difference(echo((1,)), echo()), [("in", "a1"), ("in", "a2"), ("in", "a1")])

    def test_a_read_later(self):
        self.assertEqual(writing_difference(chain(3), chain(4)), [("in", "a1")] * 4)
        self.assertEqual(writing_difference(chain(4), chain(3)), [("in", "a1")] * 4)

    def test_the_answers_do_not_matter(self):
        one = echo()
        other = Writer(one.book.turned(), one.rows)
        self.assertIsNone(writing_difference(one, other))
        self.assertIsNone(writing_difference(one, Writer(one.book.with_answer("one", True), one.rows)))
        self.assertIsNone(writing_difference(Writer(one_place(), []), Writer(again(), [])))

    def test_rows_are_tuples_of_reads(self):
        row = writing_difference(echo(), echo((1,)))
        self.assertIsInstance(row, list)
        self.assertTrue(all(isinstance(read, tuple) for read in row))

    def test_the_words_in_the_order_of_the_books(self):
        rules = [("s", word, 0, "s", ()) for word in "ab"]
        for words in ("ab", "ba"):
            book = Book(words=list(words), places=[("s", 0, False)], start="s", rules=rules)
            silent = Writer(book, [])
            self.assertEqual(writing_difference(Writer(book, [("s", word, 0, [("g", 0)]) for word in "ab"]), silent),
                             [(words[0], "a1")])


class TestLists(unittest.TestCase):
    """Point 88."""

    def test_lists_with_a_triple_left_out(self):
        for one, other in ((echo(), spare()), (crossed(), doubled_writer(crossed(), 1)), (chain(4), chain(4)),
                           (swapping(), swapping())):
            told = writing_list(one, other)
            self.assertGreater(len(told), 1)
            for at in range(len(told)):
                self.assertIs(is_writing_list(one, other, told[:at] + told[at + 1:]), False)

    def test_order_and_repeats_do_not_matter(self):
        one, other = crossed(), doubled_writer(crossed(), 1)
        told = writing_list(one, other)
        for triples in (told[::-1], told + told, told[2:] + told[:2], tuple(told)):
            self.assertIs(is_writing_list(one, other, triples), True)
        as_lists = [[place, opposite, [list(pair) for pair in pairs]] for place, opposite, pairs in told]
        self.assertIs(is_writing_list(one, other, as_lists), True)

    def test_triples_that_are_put_in(self):
        writer = spare()
        told = writing_list(writer, writer)
        # A triple from where unlike things are written breaks a list, one that is closed by itself does not.
        self.assertIs(is_writing_list(writer, writer, told + [("one", "one", ())]), False)
        self.assertIs(is_writing_list(writer, writer, told + [("far", "s", ())]), False)
        self.assertIs(is_writing_list(writer, writer, told + [("far", "far", ((1, 1),))]), True)

    def test_lists_without_the_starts(self):
        writer = spare()
        told = writing_list(writer, writer)
        self.assertIs(is_writing_list(writer, writer, []), False)
        self.assertIs(is_writing_list(writer, writer, [triple for triple in told if triple[0] != "s"]), False)

    def test_against_plain_steps(self):
        for one, other in couples():
            if one.book.words != other.book.words:
                continue
            told = reached(one.book, other.book, (one.book.start, other.book.start, ()))
            right = all(mine == theirs for triple in told for word in one.book.words
                        for mine, theirs, _ in steps_plainly(one, other, triple, word))
            self.assertIs(is_writing_list(one, other, told), right)
            self.assertEqual(writing_list(one, other) is not None, right)
            if right:
                self.assertEqual(sorted(writing_list(one, other)), sorted(told))

    def test_errors_triple_by_triple(self):
        writer = spare()
        good = ("one", "one", ((1, 1),))
        for triples, name in (([good, ("x", "y", ())], "x"), ([good, ("one", "y", ((9, 9),))], "y"),
                              ([("s", "z", ()), ("one", "one", ((2, 2),))], "z")):
            with self.assertRaises(UnknownName) as caught:
                is_writing_list(writer, writer, triples)
            self.assertEqual(caught.exception.name, name)
        for pairs in (((1, 2),), ((2, 1),), ((0, 1),), ((1, 1), (1, 1))):
            self.assertRaises(InvalidQuestion, is_writing_list, writer, writer, [good, ("one", "one", pairs)])
            # The first wrong triple is told, and all of them come ahead of an answer.
            self.assertRaises(InvalidQuestion, is_writing_list, writer, writer, [("one", "one", pairs), ("x", "x", ())])
            self.assertRaises(InvalidQuestion, is_writing_list, writer, writer,
                              [("one", "one", ()), ("one", "one", pairs)])

    def test_unlike_words_come_first(self):
        one = Writer(two_words(), [])
        book = two_words()
        other = Writer(Book(words=book.words[::-1], places=book.places, start=book.start, rules=book.rules), [])
        for first, second in ((one, other), (one, echo()), (echo(), Writer(one_place("on"), []))):
            self.assertRaises(InvalidQuestion, is_writing_list, first, second, [("x", "y", ((9, 9),))])
            self.assertRaises(InvalidQuestion, is_writing_list, first, second, [])
            for call in (writing_list, writing_difference):
                self.assertRaises(InvalidQuestion, call, first, second)
                self.assertRaises(InvalidQuestion, call, first, second, limit=0)

    def test_arguments_stay_and_lists_are_new(self):
        one = crossed()
        triples = [["s", "s", []]]
        before = copy.deepcopy(triples)
        is_writing_list(one, one, triples)
        self.assertEqual(triples, before)
        writing_list(one, one).clear()
        self.assertEqual(len(writing_list(one, one)), 4)


class TestNeeded(unittest.TestCase):
    """Points 90 and 91."""

    def test_slots_that_are_needed_at_one_place_and_not_at_another(self):
        self.assertEqual(unneeded_slots(echo(), "one"), [])
        self.assertEqual(unneeded_slots(echo(), "s"), [])
        self.assertEqual(unneeded_slots(spare(), "two"), [1])
        self.assertEqual(unneeded_slots(spare(), "one"), [])
        self.assertEqual(unneeded_slots(spare(), "far"), [])
        self.assertEqual(unneeded_slots(Writer(spare().book, []), "two"), [1, 2])
        self.assertEqual(unneeded_slots(crossed(), "pair"), [])

    def test_what_is_written_with_the_name_that_is_read(self):
        # Whether the name is held or not, it is written, so the slot is not needed.
        rows = [("one", "in", 0, [("g", 0)]), ("one", "in", 1, [("g", 1)])]
        self.assertEqual(unneeded_slots(Writer(echo().book, rows), "one"), [1])
        self.assertEqual(unneeded_slots(Writer(echo().book, rows[:1]), "one"), [])

    def test_against_all_triples(self):
        found = set()
        for writer in single() + drawn(60):
            good = alike_plainly(writer)
            for name in writer.book.place_names:
                told = unneeded_slots(writer, name)
                self.assertEqual(told, unneeded_plainly(writer, name, good))
                found.add(tuple(told))
        self.assertLessEqual({(), (1,), (2,), (1, 2)}, found)

    def test_unknown_places(self):
        for limit in (0, 20000):
            for name in ("x", "", "in"):
                with self.assertRaises(UnknownName) as caught:
                    unneeded_slots(spare(), name, limit=limit)
                self.assertEqual(caught.exception.name, name)


class TestLeast(unittest.TestCase):
    """Points 92 to 95."""

    def check_least(self, writer):
        told = least_writer(writer)
        self.assertIsInstance(told, Writer)
        book = told.book
        self.assertIsNone(writing_difference(writer, told))
        self.assertEqual(book.words, writer.book.words)
        self.assertEqual((book.place_names, book.start), (tuple(f"p{at + 1}" for at in range(len(book.places))), "p1"))
        self.assertFalse(any(yes for _, _, yes in book.places))
        self.assertEqual([unneeded_slots(told, name) for name in book.place_names], [[]] * len(book.places))
        self.assertIs(is_least_writer(told), True)
        self.assertEqual([place[:2] for place in least_writer(told).book.places], [place[:2] for place in book.places])
        return told

    def test_against_all_triples(self):
        for writer in single() + drawn(60):
            told = self.check_least(writer)
            wanted = classes_plainly(writer)
            self.assertEqual(sorted(slots for _, slots, _ in told.book.places), sorted(many for _, many in wanted))
            sizes = sorted(slots for _, slots, _ in writer.book.places)
            self.assertIs(is_least_writer(writer), sizes == sorted(many for _, many in wanted))

    def test_the_order_of_the_places(self):
        for writer in single() + drawn(60):
            book, order = writer.book, [writer.book.start]
            for place in order:
                goals = dict.fromkeys(rule[3] for rule in book.rules if rule[0] == place)
                order += [goal for goal in goals if goal not in order]
            wanted = classes_plainly(writer)
            seen = []
            for place in order:
                members = next(one for one in wanted if place in one[0])
                if members not in seen:
                    seen.append(members)
            self.assertEqual([slots for _, slots, _ in least_writer(writer).book.places], [many for _, many in seen])
            self.check_rows_lead(writer, least_writer(writer), seen)

    def check_rows_lead(self, writer, told, seen):
        number = {name: at for at, (members, _) in enumerate(seen, 1) for name in members}
        for row in rows_of(writer.book)[::7]:
            for (place, _), (small, _) in zip(trace(writer.book, row), trace(told.book, row)):
                self.assertEqual(small, f"p{number[place]}")

    def test_fewest_names_behind_each_row(self):
        for writer in single() + drawn(30):
            good, told = alike_plainly(writer), least_writer(writer)
            for row in rows_of(writer.book)[::7]:
                place, held = read_plainly(writer.book, row)
                kept = [held[slot - 1] for slot in needed_plainly(writer, place, good)]
                self.assertEqual(sorted(read_plainly(told.book, row)[1]), sorted(kept))

    def test_places_that_are_the_same_crosswise(self):
        told = self.check_least(crossed())
        self.assertEqual(told.book.places, (("p1", 0, False), ("p2", 1, False), ("p3", 2, False)))
        good = alike_plainly(crossed())
        self.assertIn(("pair", "cross", ((1, 2), (2, 1))), good)
        self.assertNotIn(("pair", "cross", ((1, 1), (2, 2))), good)

    def test_writers_that_write_alike_have_least_ones_of_one_size(self):
        for writer in single() + drawn(30):
            for seed in range(2):
                one, other = least_writer(writer), least_writer(doubled_writer(writer, seed))
                self.assertEqual(sorted(place[1] for place in one.book.places),
                                 sorted(place[1] for place in other.book.places))
                self.assertIsNone(writing_difference(one, other))
                if len(writer.book.places) > 1:
                    self.assertIs(is_least_writer(doubled_writer(writer, seed)), False)

    def test_is_least_writer(self):
        self.assertIs(is_least_writer(echo()), True)
        self.assertIs(is_least_writer(Writer(one_place(), [("p", "in", 0, [("g", 0)])])), True)
        self.assertIs(is_least_writer(doubled_writer(echo(), 1)), False)
        self.assertIs(is_least_writer(spare()), False)
        self.assertIs(is_least_writer(Writer(again(), [])), False)
        self.assertIs(is_least_writer(chain(7)), True)
        self.assertIs(is_least_writer(Writer(chain(7).book, [])), False)

    def test_a_slot_too_many(self):
        # As many places, but one with a slot that is not needed.
        rules = [("s", "in", 0, "one", (0,)), ("one", "in", 0, "one", (0,)), ("one", "in", 1, "one", (1,))]
        book = Book(words=["in"], places=[("s", 0, False), ("one", 1, False)], start="s", rules=rules)
        writer = Writer(book, [("one", "in", 0, [("g", 0)]), ("one", "in", 1, [("g", 1)])])
        self.assertEqual(least_writer(writer).book.places, (("p1", 0, False), ("p2", 0, False)))
        self.assertIs(is_least_writer(writer), False)

    def test_a_place_that_no_row_leads_to(self):
        book = echo().book
        wide = Book(words=["in"], places=book.places + (("far", 0, False),), start="s",
                    rules=book.rules + (("far", "in", 0, "s", ()),))
        writer = Writer(wide, echo().rows)
        self.assertEqual(len(least_writer(writer).book.places), 2)
        self.assertIs(is_least_writer(writer), False)

    def test_a_writer_that_writes_nothing(self):
        told = least_writer(Writer(set_book(), []))
        self.assertEqual((told.book.places, told.rows), ((("p1", 0, False),), ()))

    def test_large_writers(self):
        self.check_least(chain(59))
        places = [("s", 0, False)] + [(f"k{held}", held, False) for held in range(1, 7)]
        rules, rows = [], []
        for held, (name, slots, _) in enumerate(places):
            every = tuple(range(1, held + 1))
            goal = (f"k{held + 1}", every + (0,)) if held < 6 else (name, every[1:] + (0,))
            rules.append((name, "in", 0) + goal)
            rules += [(name, "in", case, name, every) for case in every]
            rows += [(name, "in", 0, [("last", held)] if held == 6 else [])]
            rows += [(name, "in", case, [("next", case % held + 1)]) for case in every]
        writer = Writer(Book(words=["in"], places=places, start="s", rules=rules), rows)
        self.assertEqual([slots for _, slots, _ in self.check_least(writer).book.places], [0, 1, 2, 3, 4, 5, 6])
        self.assertIs(is_least_writer(writer), True)

    def test_arguments_stay(self):
        writer = spare()
        before = (parts(writer.book), writer.rows)
        least_writer(writer), is_least_writer(writer), unneeded_slots(writer, "two").clear()
        self.assertEqual((parts(writer.book), writer.rows), before)
        self.assertEqual(unneeded_slots(writer, "two"), [1])


class TestSearch(unittest.TestCase):
    """Many questions to one search."""

    def test_against_all_triples(self):
        for writer in single() + drawn(40):
            book, good = writer.book, alike_plainly(writer)
            triples = [(one[0], other[0], pairs) for one in book.places for other in book.places
                       for pairs in matchings_plainly(one[1], other[1])]
            for order in (triples, triples[::-1], triples[::3] + triples):
                search = WritingSearch(writer, len(triples))
                self.assertEqual([search.is_alike(triple) for triple in order], [triple in good for triple in order])
            self.assertFalse([triple for triple in good if search.rules_out(triple)])

    def test_what_a_single_name_shows(self):
        for writer, triple in ((chain(4), ("c0", "c1", ((1, 1),))), (crossed(), ("pair", "cross", ((1, 1), (2, 2)))),
                               (echo(), ("one", "one", ())), (spare(), ("two", "two", ((1, 1),)))):
            self.assertIs(WritingSearch(writer, 20000).rules_out(triple), True)
        self.assertIs(WritingSearch(spare(), 20000).rules_out(("two", "two", ((2, 2),))), False)


class TestLimits(unittest.TestCase):
    """Point 96, TooMany."""

    def too_many(self, limit, call, *arguments):
        with self.assertRaises(TooMany) as caught:
            call(*arguments, limit=limit)
        self.assertEqual(caught.exception.limit, limit)

    def test_writers_that_write_alike(self):
        for writer in single() + drawn(20):
            other = doubled_writer(writer, 3)
            many = len(reached(writer.book, other.book, (writer.book.start, other.book.start, ())))
            self.assertEqual(len(writing_list(writer, other, limit=many)), many)
            self.assertIsNone(writing_difference(writer, other, limit=many))
            for limit in range(many):
                self.too_many(limit, writing_list, writer, other)
                self.too_many(limit, writing_difference, writer, other)

    def test_writers_that_do_not(self):
        pairs = [("g", 0)]
        one, other = (Writer(one_place(), [("p", "in", 0, told)]) for told in (pairs, []))
        self.assertEqual(writing_difference(one, other, limit=1), [("in", "a1")])
        self.assertIsNone(writing_list(one, other, limit=1))
        for limit in range(4):
            self.too_many(limit, writing_difference, chain(3), chain(5))
            self.too_many(limit, writing_list, chain(3), chain(5))
        self.assertEqual(len(writing_difference(chain(3), chain(5), limit=4)), 4)
        self.assertIsNone(writing_list(chain(3), chain(5), limit=4))

    def test_slots_that_are_not_needed(self):
        for writer in single() + drawn(40):
            good = alike_plainly(writer)
            for name in writer.book.place_names:
                slots = range(1, writer.book.slots(name) + 1)
                triples = [(name, name, tuple((own, own) for own in slots if own != slot)) for slot in slots]
                sizes = [len(reached(writer.book, writer.book, triple)) for triple in triples]
                most = max(sizes, default=0)
                self.assertEqual(unneeded_slots(writer, name, limit=most), unneeded_plainly(writer, name, good))
                least_many = max([size for size, triple in zip(sizes, triples) if triple in good], default=0)
                for limit in range(least_many):
                    self.too_many(limit, unneeded_slots, writer, name)

    def test_least_writers(self):
        for call in (least_writer, is_least_writer):
            for writer in (echo(), spare(), crossed(), chain(4)):
                self.too_many(0, call, writer)
            self.too_many(1, call, spare())
            call(Writer(one_place(), []), limit=0)
        # Each search counts by itself.
        for writer in single() + drawn(20):
            book, most = writer.book, 1
            for one in book.places:
                for other in book.places:
                    for pairs in matchings_plainly(one[1], other[1]):
                        most = max(most, len(reached(book, book, (one[0], other[0], pairs))))
            self.assertEqual(least_writer(writer, limit=most).rows, least_writer(writer).rows)

    def test_the_error_has_the_limit_alone(self):
        self.assertRaises(TooMany, least_writer, spare(), limit=0)
        self.assertEqual(len(least_writer(spare(), limit=50).book.places), 2)


class TestExamples(unittest.TestCase):
    def test_the_example_of_the_interface(self):
        rules = [("s", "in", 0, "one", (0,)), ("one", "in", 0, "one", (0,)), ("one", "in", 1, "one", (1,))]
        book = Book(words=["in"], places=[("s", 0, False), ("one", 1, False)], start="s", rules=rules)
        told = Writer(book, [("one", "in", 1, (("again", 1),))])
        self.assertEqual(written(told, [("in", "bob"), ("in", "bob"), ("in", "ann")]), [[], [("again", "bob")], []])
        rows = [("one", "in", 0, (("new", 0),)), ("one", "in", 1, (("new", 1),))]
        self.assertEqual((unneeded_slots(told, "one"), unneeded_slots(Writer(book, rows), "one")), ([], [1]))
