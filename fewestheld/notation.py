"""The written form of books (points 8 to 10)."""

from fewestheld.books import Book, is_name
from fewestheld.errors import InvalidNotation

DIGITS = "0123456789"
MOST_DIGITS = 6


def format_book(book):
    """Return the written form of a book."""
    lines = [" ".join(["words"] + list(book.words)), f"start {book.start}"]
    for name, slots, yes in book.places:
        answer = "yes" if yes else "no"
        lines.append(f"place {name} {slots} {answer}")
    for place, word, case, goal, moves in book.rules:
        sources = [str(source) for source in moves]
        lines.append(" ".join(["rule", place, word, str(case), goal] + sources))
    return "\n".join(lines)


def parse_book(text):
    """Return the book that a text writes."""
    lines = [line.split(" ") for line in text.split("\n")]
    _check_form(lines)
    places = [_place_of(line) for line in lines[2:] if line[0] == "place"]
    rules = [_rule_of(line) for line in lines[2:] if line[0] == "rule"]
    return Book(words=lines[0][1:], places=places, start=lines[1][1], rules=rules)


def is_integer(word):
    """Tell whether a word writes an integer (point 9)."""
    if not 1 <= len(word) <= MOST_DIGITS:
        return False
    # The digits are listed because isdigit also takes signs that are not ASCII.
    return all([sign in DIGITS for sign in word]) and (word == "0" or word[0] != "0")


def _place_of(line):
    return (line[1], int(line[2]), line[3] == "yes")


def _rule_of(line):
    return (line[1], line[2], int(line[3]), line[4], [int(word) for word in line[5:]])


def _check_form(lines):
    rules_begun = False
    for at, line in enumerate(lines):
        if not _can_stand(at, line, rules_begun):
            raise InvalidNotation(at + 1)
        rules_begun = rules_begun or line[0] == "rule"
    if len(lines) == 1:
        raise InvalidNotation(2)


def _can_stand(at, line, rules_begun):
    if at == 0:
        return line[0] == "words" and all([is_name(word) for word in line[1:]])
    if at == 1:
        return line[0] == "start" and len(line) == 2 and is_name(line[1])
    if line[0] == "place":
        return not rules_begun and _is_place(line)
    return line[0] == "rule" and _is_rule(line)


def _is_place(line):
    return len(line) == 4 and is_name(line[1]) and is_integer(line[2]) and line[3] in ("yes", "no")


def _is_rule(line):
    if len(line) < 5 or not all([is_integer(word) for word in line[3:4] + line[5:]]):
        return False
    return is_name(line[1]) and is_name(line[2]) and is_name(line[4])
