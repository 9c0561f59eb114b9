"""Books that answer alike, and rows that tell them apart (points 29 to 34)."""

from fewestheld.errors import TooMany
from fewestheld.matchings import agree, check_same_words, is_closed, is_matching, same_names
from fewestheld.runs import case_of, read_on, says, told_name


def alike(one, other, *, limit=20000):
    """Tell whether two books have the same answer behind each row."""
    _, unlike = _walked(one, other, limit)
    return unlike is None


def difference(one, other, *, limit=20000):
    """Return the first row behind which two books have unlike answers, or None."""
    walk, unlike = _walked(one, other, limit)
    return None if unlike is None else walk.row_to(unlike)


def closed_list(one, other, *, limit=20000):
    """Return the triples that rows lead to if two books are alike, otherwise None."""
    walk, unlike = _walked(one, other, limit)
    return list(walk.triples) if unlike is None else None


def check_closed(one, other, triples):
    """Tell whether a list of triples shows that two books are alike."""
    check_same_words(one, other)
    if not all([_is_triple(one, other, triple) for triple in triples]):
        return False
    unmatched = [(place, opposite) for place, opposite, pairs in triples if not pairs]
    return (one.start, other.start) in unmatched and is_closed(one, other, triples)


def check_difference(one, other, row):
    """Tell whether two books answer unlike behind a row."""
    check_same_words(one, other)
    if not all([word in one.words for word, _ in row]):
        return False
    return says(one, row) != says(other, row)


class Walk:
    """Comes to the triples of two books in the order of the first rows that lead to them.

    The names of rows are told by their numbers here, so the slots hold numbers. A read is a tuple of the place in
    the list of the triple from where it goes on, its word and the number of its name. The triple of the starts is
    come to at once.
    """

    def __init__(self, one, other, limit):
        self._books = (one, other)
        self._limit = limit
        self._seen = {}
        self._stands = []
        self._reads = []
        self.triples = []
        self.come_to(None, (one.start, (), other.start, ()))

    def steps_at(self, at):
        """Return the reads behind the triple at this place of the list, each with what comes of it, in order."""
        one, other = self._books
        place, held, other_place, other_held = self._stands[at]
        found = []
        for word in one.words:
            for number in next_numbers(held + other_held):
                stand = read_on(one, place, held, word, number)
                other_stand = read_on(other, other_place, other_held, word, number)
                found.append(((at, word, number), stand + other_stand))
        return found

    def come_to(self, read, stand):
        """Come to what comes of a read, if no earlier row leads to its triple."""
        place, held, other_place, other_held = stand
        triple = (place, other_place, same_names(held, other_held))
        if triple in self._seen:
            return
        if len(self.triples) >= self._limit:
            raise TooMany(self._limit)
        self._seen[triple] = True
        self.triples.append(triple)
        self._stands.append(stand)
        self._reads.append(read)

    def go_on(self, at):
        """Come to all that is behind the triple at this place of the list."""
        steps = self.steps_at(at)
        for read, stand in steps:
            self.come_to(read, stand)

    def kind(self, read):
        """Return the cases of a read at both places."""
        at, _, number = read
        _, held, _, other_held = self._stands[at]
        return (case_of(held, number), case_of(other_held, number))

    def row_to(self, at):
        """Return the first row that leads to the triple at this place of the list."""
        return self.row_with(self._reads[at])

    def row_with(self, read):
        """Return the first row to the triple from where a read goes on, and the read."""
        row = []
        while read is not None:
            at, word, number = read
            row.append((word, told_name(number)))
            read = self._reads[at]
        return row[::-1]


def next_numbers(held):
    """Return the numbers of the names to be read next, one for each that is held and one for the others.

    The least number that is not held is that of the first name that was forgotten or, if none was, of the
    next new one; all further names that are not held lead to the same triples by later rows.
    """
    free = 1
    while free in held:
        free += 1
    return sorted(set(held + (free,)))


def _walked(one, other, limit):
    """Return the walk up to the first triple with unlike answers, and the place of this triple or None."""
    check_same_words(one, other)
    walk = Walk(one, other, limit)
    at = 0
    while at < len(walk.triples):
        if not agree(one, other, walk.triples[at]):
            return walk, at
        walk.go_on(at)
        at += 1
    return walk, None


def _is_triple(one, other, triple):
    if len(triple) != 3 or triple[0] not in one.place_names or triple[1] not in other.place_names:
        return False
    return is_matching(one.slots(triple[0]), other.slots(triple[1]), triple[2])
