"""Writers: books that write something at each read (points 85 to 96)."""

from fewestheld.alike import Walk
from fewestheld.books import Book, is_name, is_source
from fewestheld.errors import InvalidBook, TooMany
from fewestheld.idle import idle_at
from fewestheld.least import least_by, least_case, least_names, least_source, standing
from fewestheld.matchings import check_same_words, checked_triple, kinds, same_sources, steps_from
from fewestheld.runs import case_of, trace

MOST_PAIRS = 2


class Writer:
    """A book with the pairs of words and sources that are written at its rules."""

    def __init__(self, book, rows):
        self.book = book
        self._told = _told_pairs(book, rows)
        self._rows = tuple([rule[:3] + (self._told[rule[:3]],) for rule in book.rules if self._told.get(rule[:3])])

    @property
    def rows(self):
        """The tuple of the rows with pairs, in the order of the rules of the book."""
        return self._rows

    def pairs(self, place, word, case):
        """Return the tuple of the pairs that are written."""
        # The rule is not needed, but the book tells of a strange place, word or case.
        self.book.rule(place, word, case)
        return self._told.get((place, word, case), ())


def written(writer, row):
    """Return what is written at each read of a row."""
    stands = trace(writer.book, row)
    return [_written_at(writer, stand, read) for stand, read in zip(stands, row)]


def writing_list(first, second, *, limit=20000):
    """Return a list of triples that shows that two writers write alike, or None."""
    walk, unlike = _walked(first, second, limit)
    return list(walk.triples) if unlike is None else None


def is_writing_list(first, second, triples):
    """Tell whether a list of triples shows that two writers write alike."""
    check_same_words(first.book, second.book)
    kept = [checked_triple(first.book, second.book, triple) for triple in triples]
    there = {triple: True for triple in kept}
    if (first.book.start, second.book.start, ()) not in there:
        return False
    for triple in there:
        goals = _goals(first, second, triple)
        if goals is None or not all([goal in there for goal in goals]):
            return False
    return True


def writing_difference(first, second, *, limit=20000):
    """Return the first row at whose last read two writers write unlike, or None."""
    walk, unlike = _walked(first, second, limit)
    return None if unlike is None else walk.row_with(unlike)


def unneeded_slots(writer, place, *, limit=20000):
    """Return the slots of a place that are not needed."""
    return list(idle_at(writer.book, WritingSearch(writer, limit), place))


def least_writer(writer, *, limit=20000):
    """Return the least writer that writes alike."""
    book = writer.book
    table = standing(book, WritingSearch(writer, limit))
    small = least_by(book, table)
    places = [(name, slots, False) for name, slots, _ in small.places]
    rows = []
    for place, name in least_names(table).items():
        kept = table[place][1]
        for word in book.words:
            rows.extend([_least_row(writer, place, name, word, case, kept) for case in range(len(kept) + 1)])
    return Writer(Book(words=small.words, places=places, start=small.start, rules=small.rules), rows)


def is_least_writer(writer, *, limit=20000):
    """Tell whether a writer is as large as its least writer."""
    return _sizes(writer) == _sizes(least_writer(writer, limit=limit))


class WritingSearch:
    """Tells whether nothing unlike is written behind triples of a writer and itself and all that reads lead to.

    Each question is a search of its own, which counts the triples that it comes to.
    """

    def __init__(self, writer, limit):
        self._writer = writer
        self._limit = limit
        self._kept_goals = {}
        self._known = {}
        self._sorts = None

    def is_alike(self, triple):
        """Tell whether nothing unlike is written behind a triple and all that reads lead to from it."""
        if triple in self._known:
            return self._known[triple]
        origins = {}
        waiting = []
        self._come_to(triple, None, origins, waiting)
        at = 0
        while at < len(waiting):
            one = waiting[at]
            goals = self._goals_of(one)
            if goals is None:
                self._keep_unlike(one, origins)
                return False
            for goal in goals:
                if goal not in origins:
                    self._come_to(goal, one, origins, waiting)
            at += 1
        # Its triples are alike, too, but they are not kept: a search that comes to them counts all behind them.
        self._known[triple] = True
        return True

    def rules_out(self, triple):
        """Tell whether something unlike is seen to be written without a search, as a single name shows it."""
        if self._sorts is None:
            self._sorts = _sorts_of_names(self._writer)
        place, other, pairs = triple
        told = kinds(self._writer.book.slots(place), self._writer.book.slots(other), pairs)
        return any([self._sorts[(place, case)] != self._sorts[(other, other_case)] for case, other_case in told])

    def _come_to(self, triple, origin, origins, waiting):
        if len(waiting) >= self._limit:
            raise TooMany(self._limit)
        origins[triple] = origin
        waiting.append(triple)

    def _goals_of(self, triple):
        """Return the triples behind a triple, or None if it is known that something unlike is written."""
        if not self._known.get(triple, True):
            return None
        if triple not in self._kept_goals:
            self._kept_goals[triple] = _goals(self._writer, self._writer, triple)
        return self._kept_goals[triple]

    def _keep_unlike(self, triple, origins):
        while triple is not None:
            self._known[triple] = False
            triple = origins[triple]


def _told_pairs(book, rows):
    there = {rule[:3]: True for rule in book.rules}
    told = {}
    for row in rows:
        if len(row) != 4 or tuple(row[:3]) not in there:
            raise InvalidBook("a row tells no rule of the book")
        place, _, case, pairs = row
        if tuple(row[:3]) in told:
            raise InvalidBook("two rows tell the same rule")
        told[tuple(row[:3])] = _kept_pairs(pairs, case, book.slots(place))
    return told


def _kept_pairs(pairs, case, slots):
    kept = tuple([tuple(pair) for pair in pairs])
    if len(kept) > MOST_PAIRS:
        raise InvalidBook(f"there are more than {MOST_PAIRS} pairs")
    for pair in kept:
        if len(pair) != 2 or not is_name(pair[0]) or not is_source(pair[1], case, slots):
            raise InvalidBook("a pair is a name and a source")
    return kept


def _written_at(writer, stand, read):
    place, held = stand
    word, name = read
    pairs = writer.pairs(place, word, case_of(held, name))
    return [(told, held[source - 1] if source else name) for told, source in pairs]


def _walked(first, second, limit):
    """Return the walk up to the first read at which two writers write unlike, and this read or None."""
    check_same_words(first.book, second.book)
    walk = Walk(first.book, second.book, limit)
    at = 0
    while at < len(walk.triples):
        steps = walk.steps_at(at)
        for read, stand in steps:
            if not _write_alike(first, second, walk.triples[at], read[1], walk.kind(read)):
                return walk, read
            walk.come_to(read, stand)
        at += 1
    return walk, None


def _goals(first, second, triple):
    """Return the triples behind a triple, or None if something unlike is written there."""
    steps = steps_from(first.book, second.book, triple)
    if not all([_write_alike(first, second, triple, word, kind) for word, kind, _ in steps]):
        return None
    return [goal for _, _, goal in steps]


def _write_alike(first, second, triple, word, kind):
    """Tell whether the same is written at a read behind a triple."""
    place, other, pairs = triple
    one_told = first.pairs(place, word, kind[0])
    other_told = second.pairs(other, word, kind[1])
    if [told for told, _ in one_told] != [told for told, _ in other_told]:
        return False
    same = same_sources(pairs, kind)
    return all([same.get(one[1]) == two[1] for one, two in zip(one_told, other_told)])


def _sorts_of_names(writer):
    """Return a dict with a number for a name in each slot of each place, and with the case 0 for one in no slot.

    Names have the same number if a reader who looks at nothing but one of them, and at new names, cannot tell
    them apart by what is written from there on. Matched slots of places that are the same hold such names.
    """
    sorts = {(name, case): 0 for name, slots, _ in writer.book.places for case in range(slots + 1)}
    many = 0
    while len(set(list(sorts.values()))) > many:
        many = len(set(list(sorts.values())))
        numbers = {}
        finer = {}
        for key in sorts:
            finer[key] = numbers.setdefault(_sign_of_name(writer, sorts, key), len(numbers))
        sorts = finer
    return sorts


def _sign_of_name(writer, sorts, key):
    """Return what tells a name apart from others: what is written at each next read, and its number behind it."""
    place, own = key
    sign = [sorts[key]]
    for word in writer.book.words:
        # The name itself is read, and then a new one, beside which a name in no slot is no source.
        for case, source in ((own, own), (0, own if own else None)):
            goal, moves = writer.book.rule(place, word, case)
            pairs = writer.pairs(place, word, case)
            sign.append(tuple([(told, where == source, where == case) for told, where in pairs]))
            sign.append(sorts[(goal, moves.index(source) + 1 if source in moves else 0)])
    return tuple(sign)


def _least_row(writer, place, name, word, case, kept):
    pairs = writer.pairs(place, word, least_case(kept, case))
    return (name, word, case, [(told, least_source(kept, source)) for told, source in pairs])


def _sizes(writer):
    return sorted([slots for _, slots, _ in writer.book.places])
