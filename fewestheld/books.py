"""Books of rules, and the names in them (points 2 to 7)."""

from fewestheld.errors import InvalidBook, InvalidQuestion, UnknownName

LETTERS = "abcdefghijklmnopqrstuvwxyz"
SIGNS = "abcdefghijklmnopqrstuvwxyz0123456789"
LONGEST_NAME = 12
MOST_WORDS = 3
MOST_PLACES = 60
MOST_SLOTS = 6


def is_name(text):
    """Tell whether a text is a name (point 2)."""
    if not isinstance(text, str) or not 1 <= len(text) <= LONGEST_NAME:
        return False
    # The signs are listed because isdigit and islower also take signs that are not ASCII.
    return text[0] in LETTERS and all([sign in SIGNS for sign in text])


def is_source(source, case, slots):
    """Tell whether a number is a source in a case of a place with so many slots (point 5)."""
    return _is_number(source, slots) and (source != 0 or case == 0)


class Book:
    """A book of rules (points 3 to 6). It does not change."""

    def __init__(self, *, words, places, start, rules):
        self.words = _kept_words(words)
        self.places = _kept_places(places)
        self.start = start
        self._place_names = tuple([place[0] for place in self.places])
        self._place_table = {place[0]: place for place in self.places}
        if start not in self._place_table or self._place_table[start][1] != 0:
            raise InvalidBook("the start is no place without slots")
        self._rule_table = _told_rules(self.words, self._place_table, rules)
        self._rules = _ordered_rules(self.words, self.places, self._rule_table)

    @property
    def rules(self):
        """The tuple of the rules, in the order of point 6."""
        return self._rules

    @property
    def place_names(self):
        """The tuple of the names of the places, in order."""
        return self._place_names

    def check_word(self, word):
        """Raise UnknownName if the book does not have the word."""
        if word not in self.words:
            raise UnknownName(word)

    def place(self, name):
        """Return the tuple of the place with this name."""
        if name not in self._place_table:
            raise UnknownName(name)
        return self._place_table[name]

    def slots(self, name):
        """Return the number of slots of a place."""
        return self.place(name)[1]

    def says_yes(self, name):
        """Return the answer of a place."""
        return self.place(name)[2]

    def rule(self, name, word, case):
        """Return the goal and the moves of the rule for a place, a word and a case."""
        self.place(name)
        self.check_word(word)
        if (name, word, case) not in self._rule_table:
            raise InvalidQuestion(f"the place {name} has no case {case}")
        return self._rule_table[(name, word, case)]

    def with_answer(self, name, yes):
        """Return the book with this answer at this place."""
        slots = self.slots(name)
        places = [(name, slots, yes) if place[0] == name else place for place in self.places]
        return Book(words=self.words, places=places, start=self.start, rules=self._rules)

    def with_start(self, name):
        """Return the book that begins at this place."""
        self.place(name)
        return Book(words=self.words, places=self.places, start=name, rules=self._rules)

    def with_rule(self, rule):
        """Return the book with this rule in the place of the one for the same place, word and case."""
        changed = _kept_rule(self.words, self._place_table, rule)
        rules = [changed if kept[:3] == changed[:3] else kept for kept in self._rules]
        return Book(words=self.words, places=self.places, start=self.start, rules=rules)

    def turned(self):
        """Return the book with the other answer at each place."""
        places = [(name, slots, not yes) for name, slots, yes in self.places]
        return Book(words=self.words, places=places, start=self.start, rules=self._rules)

    def renamed(self, name, other):
        """Return the book in which a place has another name, everywhere."""
        self.place(name)
        called = {kept: kept for kept in self._place_names}
        called[name] = other
        places = [(called[kept], slots, yes) for kept, slots, yes in self.places]
        rules = [(called[at], word, case, called[goal], moves) for at, word, case, goal, moves in self._rules]
        return Book(words=self.words, places=places, start=called[self.start], rules=rules)


def _is_number(value, most):
    # Python counts True and False as integers, the document does not.
    return isinstance(value, int) and not isinstance(value, bool) and 0 <= value <= most


def _check_names(names):
    seen = {}
    for name in names:
        if not is_name(name):
            raise InvalidBook(f"this is no name: {name}")
        if name in seen:
            raise InvalidBook(f"this name stands twice: {name}")
        seen[name] = True


def _kept_words(words):
    kept = tuple(words)
    if not 1 <= len(kept) <= MOST_WORDS:
        raise InvalidBook("a book has 1 to 3 words")
    _check_names(kept)
    return kept


def _kept_places(places):
    kept = tuple([_kept_place(place) for place in places])
    if not 1 <= len(kept) <= MOST_PLACES:
        raise InvalidBook("a book has 1 to 60 places")
    _check_names([place[0] for place in kept])
    return kept


def _kept_place(place):
    if len(place) != 3:
        raise InvalidBook("a place has three parts")
    name, slots, yes = place
    if not _is_number(slots, MOST_SLOTS):
        raise InvalidBook("a place has 0 to 6 slots")
    if not isinstance(yes, bool):
        raise InvalidBook("an answer is True or False")
    return (name, slots, yes)


def _kept_rule(words, place_table, rule):
    if len(rule) != 5:
        raise InvalidBook("a rule has five parts")
    place, word, case, goal, moves = rule
    if place not in place_table or word not in words or goal not in place_table:
        raise InvalidBook("a rule has a strange name")
    if not _is_number(case, place_table[place][1]):
        raise InvalidBook("a rule has a case that its place does not have")
    sources = tuple(moves)
    _check_sources(sources, case, place_table[place][1], place_table[goal][1])
    return (place, word, case, goal, sources)


def _check_sources(sources, case, slots, goal_slots):
    if len(sources) != goal_slots:
        raise InvalidBook("a rule has a source for each slot of its goal")
    seen = {}
    for source in sources:
        if not is_source(source, case, slots):
            raise InvalidBook("a rule has a source that is none")
        if source in seen:
            raise InvalidBook("a rule has a source twice")
        seen[source] = True


def _told_rules(words, place_table, rules):
    table = {}
    for rule in rules:
        place, word, case, goal, sources = _kept_rule(words, place_table, rule)
        if (place, word, case) in table:
            raise InvalidBook("a rule is told twice")
        table[(place, word, case)] = (goal, sources)
    return table


def _ordered_rules(words, places, table):
    ordered = []
    for name, slots, _ in places:
        for word in words:
            for case in range(slots + 1):
                if (name, word, case) not in table:
                    raise InvalidBook("a rule is left out")
                ordered.append((name, word, case) + table[(name, word, case)])
    return tuple(ordered)
