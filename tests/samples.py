"""Books that several tests use."""

import random

from fewestheld.books import Book


def small_parts():
    """The parts of the first book of the interface."""
    return {
        "words": ["in"],
        "places": [("a", 0, True), ("b", 1, False)],
        "start": "a",
        "rules": [("a", "in", 0, "b", [0]), ("b", "in", 1, "a", []), ("b", "in", 0, "b", [1])],
    }


def small_book():
    return Book(**small_parts())


def two_words():
    """A book with two words, three places and two slots."""
    rules = [
        ("zero", "put", 0, "one", (0,)),
        ("zero", "ask", 0, "zero", ()),
        ("one", "put", 0, "two", (0, 1)),
        ("one", "put", 1, "one", (1,)),
        ("one", "ask", 0, "one", (1,)),
        ("one", "ask", 1, "zero", ()),
        ("two", "put", 0, "two", (0, 2)),
        ("two", "put", 1, "two", (2, 1)),
        ("two", "put", 2, "two", (1, 2)),
        ("two", "ask", 0, "two", (2, 1)),
        ("two", "ask", 1, "one", (2,)),
        ("two", "ask", 2, "one", (1,)),
    ]
    places = [("zero", 0, False), ("one", 1, True), ("two", 2, False)]
    return Book(words=("put", "ask"), places=places, start="zero", rules=rules)


def parts(book):
    return (book.words, book.places, book.start, book.rules)


def random_book(seed, *, words=("in",), most_places=4, most_slots=2):
    """A book whose rules are drawn, the same one for the same seed."""
    draw = random.Random(seed)
    places = [("p0", 0, draw.random() < 0.5)]
    for number in range(1, draw.randint(1, most_places)):
        places.append((f"p{number}", draw.randint(0, most_slots), draw.random() < 0.5))
    rules = []
    for name, slots, _ in places:
        for word in words:
            for case in range(slots + 1):
                sources = list(range(1 if case else 0, slots + 1))
                goal = draw.choice([place for place in places if place[1] <= len(sources)])
                rules.append((name, word, case, goal[0], tuple(draw.sample(sources, goal[1]))))
    return Book(words=words, places=places, start="p0", rules=rules)
