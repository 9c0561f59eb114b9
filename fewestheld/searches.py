"""What several searches share: triples of a book and itself, and rows and rests that are found (point 36)."""

from fewestheld.alike import next_numbers
from fewestheld.errors import TooMany
from fewestheld.matchings import agree, steps_from, turned
from fewestheld.runs import read_on, told_name


class Search:
    """Tells of triples of a book and itself whether, and how, reads lead from them to unlike answers.

    A triple leads to the same as the one that is seen from the other side, so both are looked at as one.
    What it finds out about a triple is kept, and each triple that it looks at counts once.
    """

    def __init__(self, book, limit):
        self._book = book
        self._limit = limit
        self._steps = {}
        self._known = {}
        self._ways = {}

    def is_alike(self, triple):
        """Tell whether the places of a triple are alike under its matching."""
        start, _ = _one_side(triple)
        origins = {start: []}
        waiting = [start]
        at = 0
        while at < len(waiting):
            one = waiting[at]
            if not self._may_be_alike(one):
                self._keep_unlike(one, origins)
                return False
            for goal in self._steps_of(one):
                if goal not in origins:
                    origins[goal] = []
                    waiting.append(goal)
                origins[goal].append(one)
            at += 1
        self._keep_alike(waiting)
        return True

    def rules_out(self, triple):
        """Tell whether the places of a triple are seen not to be alike without a search."""
        return not agree(self._book, self._book, triple)

    def way(self, triple):
        """Return the words and kinds of a shortest way from a triple to unlike answers, or None."""
        one, across = _one_side(triple)
        if one not in self._ways:
            if self.is_alike(one):
                return None
            self.find_ways([one])
        found = []
        while self._ways[one][0] > 0:
            goal = self._ways[one][1]
            word, kind, crossed = self._steps[one][goal]
            found.append((word, kind[::-1] if across else kind))
            across = across != crossed
            one = goal
        return found

    def find_ways(self, triples):
        """Find shortest ways from triples, none of which is alike, all together.

        Each round looks a read further on from those that have no way yet, which is less work for many triples
        than a search for each of them.
        """
        waiting = [_one_side(triple)[0] for triple in triples]
        reads = 0
        while waiting:
            waiting = [one for one in waiting if one not in self._ways]
            self._find_ways_of(waiting, reads)
            reads += 1

    def _may_be_alike(self, triple):
        self._look_at(triple)
        return agree(self._book, self._book, triple) and self._known.get(triple, True)

    def _look_at(self, triple):
        if triple in self._steps:
            return
        if len(self._steps) >= self._limit:
            raise TooMany(self._limit)
        self._steps[triple] = None

    def _steps_of(self, triple):
        if self._known.get(triple, False):
            # All that reads lead to from here agrees, as an earlier search has found.
            return {}
        if self._steps[triple] is None:
            self._steps[triple] = self._told_steps(triple)
        return self._steps[triple]

    def _told_steps(self, triple):
        found = {}
        for word, kind, behind in steps_from(self._book, self._book, triple):
            goal, crossed = _one_side(behind)
            if goal not in found:
                found[goal] = (word, kind, crossed)
        return found

    def _keep_unlike(self, triple, origins):
        waiting = [triple]
        self._known[triple] = False
        while waiting:
            goal = waiting.pop()
            for one in origins[goal]:
                if one not in self._known:
                    self._known[one] = False
                    waiting.append(one)

    def _keep_alike(self, triples):
        for triple in triples:
            self._known[triple] = True

    def _find_ways_of(self, starts, reads):
        """Find the ways of so many reads from triples that have no shorter ones.

        What they lead to then has no shorter ways than the reads that are left, so its ways are found, too.
        """
        layers = [starts]
        met = {one: True for one in starts}
        for _ in range(reads):
            layers.append(self._next_layer(layers[-1], met))
        for one in layers[-1]:
            if self._is_unlike_now(one) and len(starts) == 1:
                break
        for left in range(1, reads + 1):
            for one in layers[reads - left]:
                self._find_step(one, left)

    def _next_layer(self, layer, met):
        found = []
        for one in layer:
            for goal in self._steps_of(one):
                if goal not in met and goal not in self._ways:
                    met[goal] = True
                    found.append(goal)
        return found

    def _is_unlike_now(self, triple):
        self._look_at(triple)
        if agree(self._book, self._book, triple):
            return False
        self._ways[triple] = (0, None)
        return True

    def _find_step(self, one, left):
        for goal in self._steps_of(one):
            if goal in self._ways and self._ways[goal][0] == left - 1:
                self._ways[one] = (left, goal)
                return


def first_rows(book, most=None):
    """Return a dict with the first shortest row to each place that some row with at most so many names reaches.

    The places stand in the order of these rows. Without a number the rows may have any names.
    """
    found = {book.start: []}
    held_at = {book.start: ()}
    waiting = [book.start]
    at = 0
    while at < len(waiting):
        place = waiting[at]
        held_there = held_at[place]
        numbers = [number for number in next_numbers(held_there) if most is None or number <= most]
        for word in book.words:
            for number in numbers:
                goal, held = read_on(book, place, held_there, word, number)
                if goal not in found:
                    found[goal] = found[place] + [(word, told_name(number))]
                    held_at[goal] = held
                    waiting.append(goal)
        at += 1
    return found


def rest_along(book, stand, other_stand, way, new):
    """Return the rest whose reads have the words and kinds of a way behind two places that hold names.

    The names that are in no slot are taken from a list of new ones.
    """
    place, held = stand
    other, other_held = other_stand
    rest = []
    for (word, (case, other_case)), name in zip(way, new):
        if case:
            name = held[case - 1]
        elif other_case:
            name = other_held[other_case - 1]
        rest.append((word, name))
        place, held = read_on(book, place, held, word, name)
        other, other_held = read_on(book, other, other_held, word, name)
    return rest


def new_names(taken, many):
    """Return so many different names that are none of those that are taken."""
    found = []
    number = 0
    while len(found) < many:
        number += 1
        if told_name(number) not in taken:
            found.append(told_name(number))
    return found


def _one_side(triple):
    """Return the triple or the one that is seen from the other side, the same for both, and if it is this one."""
    place, other, pairs = triple
    back = (other, place, turned(pairs))
    return (back, True) if back < triple else (triple, False)
