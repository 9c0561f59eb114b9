"""Books that answer alike, and rows that tell them apart (points 29 to 34)."""

from fewestheld.errors import TooMany
from fewestheld.matchings import agree, check_same_words, is_closed, is_matching, same_names
from fewestheld.runs import read_on, says, told_name


def alike(one, other, *, limit=20000):
    """Tell whether two books have the same answer behind each row."""
    return _walk(one, other, limit).unlike is None


def difference(one, other, *, limit=20000):
    """Return the first row behind which two books have unlike answers, or None."""
    walk = _walk(one, other, limit)
    return None if walk.unlike is None else walk.row_to(walk.unlike)


def closed_list(one, other, *, limit=20000):
    """Return the triples that rows lead to if two books are alike, otherwise None."""
    walk = _walk(one, other, limit)
    return list(walk.triples) if walk.unlike is None else None


def check_closed(one, other, triples):
    """Tell whether a list of triples shows that two books are alike."""
    check_same_words(one, other)
    if not all([_is_triple(one, other, triple) for triple in triples]):
        return False
    unmatched = [(place, opposite) for place, opposite, pairs in triples if not pairs]
    return (one.start, other.start) in unmatched and is_closed(one, other, triples)


def check_difference(one, other, row):
    """Tell whether two books answer unlike behind a row."""
    check_same_words(one, other)
    if not all([word in one.words for word, _ in row]):
        return False
    return says(one, row) != says(other, row)


class Walk:
    """Goes through the triples of two books in the order of the first rows that lead to them.

    The names of rows are told by their numbers here, so the slots hold numbers.
    """

    def __init__(self, one, other, limit):
        self._books = (one, other)
        self._limit = limit
        self._seen = {}
        self._stands = []
        self._reads = []
        self.triples = []
        self.unlike = None
        self._come_to((one.start, (), other.start, ()), None)

    def go(self):
        """Come to all triples, up to the first one with unlike answers."""
        one, other = self._books
        at = 0
        while at < len(self.triples) and self.unlike is None:
            if agree(one, other, self.triples[at]):
                self._read_on(at)
            else:
                self.unlike = at
            at += 1

    def row_to(self, at):
        """Return the first row that leads to the triple at this place of the list."""
        row = []
        read = self._reads[at]
        while read is not None:
            at, word, number = read
            row.append((word, told_name(number)))
            read = self._reads[at]
        return row[::-1]

    def _read_on(self, at):
        one, other = self._books
        place, held, other_place, other_held = self._stands[at]
        for word in one.words:
            for number in next_numbers(held + other_held):
                stand = read_on(one, place, held, word, number)
                other_stand = read_on(other, other_place, other_held, word, number)
                self._come_to(stand + other_stand, (at, word, number))

    def _come_to(self, stand, read):
        place, held, other_place, other_held = stand
        triple = (place, other_place, same_names(held, other_held))
        if triple in self._seen:
            return
        if len(self.triples) >= self._limit:
            raise TooMany(self._limit)
        self._seen[triple] = True
        self.triples.append(triple)
        self._stands.append(stand)
        self._reads.append(read)


def next_numbers(held):
    """Return the numbers of the names to be read next, one for each that is held and one for the others.

    The least number that is not held is that of the first name that was forgotten or, if none was, of the
    next new one; all further names that are not held lead to the same triples by later rows.
    """
    free = 1
    while free in held:
        free += 1
    return sorted(set(held + (free,)))


def _walk(one, other, limit):
    check_same_words(one, other)
    walk = Walk(one, other, limit)
    walk.go()
    return walk


def _is_triple(one, other, triple):
    if len(triple) != 3 or triple[0] not in one.place_names or triple[1] not in other.place_names:
        return False
    return is_matching(one.slots(triple[0]), other.slots(triple[1]), triple[2])
