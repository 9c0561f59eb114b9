import unittest

from fewestheld.errors import TooMany
from fewestheld.searches import Search, first_rows, new_names, rest_along
from tests.samples import (again, alike_plainly, all_there_are, behind_plainly, kind_rows, matchings_plainly, one_place,
                           random_book, read_plainly, rest_lengths, set_book, twice, two_words)


def all_triples(book):
    return [(one[0], other[0], pairs) for one in book.places for other in book.places
            for pairs in matchings_plainly(one[1], other[1])]


class TestSearch(unittest.TestCase):
    """Point 36, as one search finds it for many triples."""

    def test_many_questions_to_one_search(self):
        for book in [two_words()] + [random_book(seed) for seed in range(60)]:
            good = alike_plainly(book, book)
            triples = all_triples(book)
            for order in (triples, triples[::-1], triples[::3] + triples):
                search = Search(book, len(triples))
                self.assertEqual([search.is_alike(triple) for triple in order], [triple in good for triple in order])

    def test_the_limit(self):
        triple = ("p", "p", ())
        self.assertIs(Search(one_place(), 1).is_alike(triple), True)
        with self.assertRaises(TooMany) as caught:
            Search(one_place(), 0).is_alike(triple)
        self.assertEqual(caught.exception.limit, 0)

    def test_triples_that_were_looked_at_count_once(self):
        search = Search(one_place(), 1)
        for _ in range(3):
            self.assertIs(search.is_alike(("p", "p", ())), True)

    def test_both_sides_of_a_triple_count_once(self):
        for book in [two_words(), set_book(), twice()] + [random_book(seed) for seed in range(40)]:
            search = Search(book, all_there_are(book))
            for triple in all_triples(book):
                search.is_alike(triple)
                search.way(triple)


class TestWays(unittest.TestCase):
    """Shortest ways to unlike answers."""

    def goal_of(self, book, triple, way):
        for word, kind in way:
            held = [f"x{slot}" for slot in range(1, book.slots(triple[0]) + 1)]
            match = {slot: own for own, slot in triple[2]}
            other_held = [f"x{match[slot]}" if slot in match else f"y{slot}"
                          for slot in range(1, book.slots(triple[1]) + 1)]
            name = held[kind[0] - 1] if kind[0] else other_held[kind[1] - 1] if kind[1] else "z"
            self.assertEqual(kind[1], other_held.index(name) + 1 if name in other_held else 0)
            triple = dict(behind_plainly(book, book, triple, word))[name]
        return triple

    def check_way(self, book, triple, way, lengths):
        if triple not in lengths:
            self.assertIsNone(way)
            return
        self.assertEqual(len(way), lengths[triple])
        one, other, _ = self.goal_of(book, triple, way)
        self.assertNotEqual(book.says_yes(one), book.says_yes(other))

    def test_one_by_one_and_all_together(self):
        for book in [two_words(), set_book(), again()] + [random_book(seed, most_places=5) for seed in range(60)]:
            lengths = rest_lengths(book)
            kept = Search(book, 20000)
            together = Search(book, 20000)
            together.find_ways(list(lengths))
            for triple in all_triples(book):
                for search in (Search(book, 20000), kept, together):
                    self.check_way(book, triple, search.way(triple), lengths)

    def test_some_together(self):
        for seed in range(60):
            book = random_book(seed, words=("u", "v"), most_places=5)
            lengths = rest_lengths(book)
            for step in (2, 3, 5):
                search = Search(book, 20000)
                search.find_ways(list(lengths)[::step])
                for triple in all_triples(book):
                    self.check_way(book, triple, search.way(triple), lengths)

    def test_the_limit(self):
        for triple in (("s", "one", ()), ("one", "one", ())):
            with self.assertRaises(TooMany):
                Search(again().renamed("start", "s"), 1).way(triple)
        self.assertEqual(Search(again(), 1).way(("one", "again", ())), [])


class TestRows(unittest.TestCase):
    def test_first_rows(self):
        for book in [twice(), two_words(), set_book()] + [random_book(seed, most_places=5) for seed in range(60)]:
            for most in (None, 0, 1, 2, 3):
                wanted = {}
                for many in range(6 if len(book.words) == 1 else 5):
                    for row in kind_rows(book.words, many):
                        if most is None or len({name for _, name in row}) <= most:
                            wanted.setdefault(read_plainly(book, row)[0], row)
                self.assertEqual(list(first_rows(book, most).items()), list(wanted.items()))

    def test_rest_along(self):
        way = [("put", (1, 0)), ("put", (0, 0)), ("ask", (0, 2))]
        self.assertEqual(rest_along(two_words(), ("two", ("a", "b")), ("two", ("c", "d")), way, ["n1", "n2", "n3"]),
                         [("put", "a"), ("put", "n2"), ("ask", "d")])

    def test_new_names(self):
        self.assertEqual(new_names([], 3), ["a1", "a2", "a3"])
        self.assertEqual(new_names(["a2", "b", "a1"], 2), ["a3", "a4"])
        self.assertEqual(new_names(["a1"], 0), [])
