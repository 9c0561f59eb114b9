import unittest

from fewestheld.errors import TooMany
from fewestheld.searches import Search
from tests.samples import alike_plainly, matchings_plainly, one_place, random_book, two_words


class TestSearch(unittest.TestCase):
    """Point 36, as one search finds it for many triples."""

    def test_many_questions_to_one_search(self):
        for book in [two_words()] + [random_book(seed) for seed in range(60)]:
            good = alike_plainly(book, book)
            triples = [(one[0], other[0], pairs) for one in book.places for other in book.places
                       for pairs in matchings_plainly(one[1], other[1])]
            for order in (triples, triples[::-1], triples[::3] + triples):
                search = Search(book, len(triples))
                self.assertEqual([search.is_alike(triple) for triple in order], [triple in good for triple in order])

    def test_the_limit(self):
        triple = ("p", "p", ())
        self.assertIs(Search(one_place(), 1).is_alike(triple), True)
        with self.assertRaises(TooMany) as caught:
            Search(one_place(), 0).is_alike(triple)
        self.assertEqual(caught.exception.limit, 0)

    def test_triples_that_were_looked_at_count_once(self):
        search = Search(one_place(), 1)
        for _ in range(3):
            self.assertIs(search.is_alike(("p", "p", ())), True)
