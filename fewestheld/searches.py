"""A search that tells which places of a book are alike under which matchings (point 36)."""

from fewestheld.errors import TooMany
from fewestheld.matchings import agree, steps_from


class Search:
    """Tells of triples of a book and itself whether reads lead from them to unlike answers.

    What it finds out about a triple is kept, and each triple that it looks at counts once.
    """

    def __init__(self, book, limit):
        self._book = book
        self._limit = limit
        self._goals = {}
        self._known = {}

    def is_alike(self, triple):
        """Tell whether the places of a triple are alike under its matching."""
        origins = {triple: []}
        waiting = [triple]
        at = 0
        while at < len(waiting):
            one = waiting[at]
            if not self._may_be_alike(one):
                self._keep_unlike(one, origins)
                return False
            for goal in self._goals_of(one):
                if goal not in origins:
                    origins[goal] = []
                    waiting.append(goal)
                origins[goal].append(one)
            at += 1
        for one in waiting:
            self._known[one] = True
        return True

    def _may_be_alike(self, triple):
        self._look_at(triple)
        return agree(self._book, self._book, triple) and self._known.get(triple, True)

    def _look_at(self, triple):
        if triple in self._goals:
            return
        if len(self._goals) >= self._limit:
            raise TooMany(self._limit)
        self._goals[triple] = None

    def _goals_of(self, triple):
        if self._known.get(triple, False):
            # All that reads lead to from here agrees, as an earlier search has found.
            return []
        if self._goals[triple] is None:
            self._goals[triple] = [step[2] for step in steps_from(self._book, self._book, triple)]
        return self._goals[triple]

    def _keep_unlike(self, triple, origins):
        waiting = [triple]
        self._known[triple] = False
        while waiting:
            goal = waiting.pop()
            for one in origins[goal]:
                if one not in self._known:
                    self._known[one] = False
                    waiting.append(one)
