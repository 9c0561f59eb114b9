"""The words of the lines of a session, and what they write (points 70 and 71)."""

from fewestheld.books import is_name

# NAME stands for any name. It is none itself, so no form is mistaken for another one.
FORMS = (
    ("book", "NAME"),
    ("set", "NAME", "NAME", "yes"),
    ("set", "NAME", "NAME", "no"),
    ("remove", "NAME"),
    ("ask", "NAME", "alike", "NAME", "NAME"),
    ("ask", "NAME", "ever", "NAME"),
    ("ask", "NAME", "places", "NAME"),
    ("drop", "NAME"),
    ("answer", "NAME"),
    ("answers",),
    ("print", "NAME"),
    ("books",),
    ("questions",),
    ("undo",),
    ("redo",),
)


def split_words(line):
    """Return the words of a line, its parts between spaces that are not empty."""
    return [word for word in line.split(" ") if word]


def row_of(words):
    """Return the row that some words write, or None if one of them is no read."""
    row = [tuple(word.split(":")) for word in words]
    return row if all([_is_read(read) for read in row]) else None


def is_command(words):
    """Tell whether some words are a command."""
    if words[0] == "read":
        return len(words) > 1 and is_name(words[1]) and row_of(words[2:]) is not None
    return any([_has_form(words, form) for form in FORMS])


def _is_read(parts):
    return len(parts) == 2 and is_name(parts[0]) and is_name(parts[1])


def _has_form(words, form):
    if len(words) != len(form):
        return False
    return all([is_name(word) if part == "NAME" else word == part for word, part in zip(words, form)])
