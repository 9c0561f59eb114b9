"""The written forms of rows, and of papers about two books (points 75 to 77)."""

from fewestheld.alike import check_closed, check_difference, closed_list, difference
from fewestheld.books import is_name
from fewestheld.errors import InvalidNotation, InvalidPaper
from fewestheld.notation import is_integer


def row_text(row):
    """Return the written form of a row."""
    return "\n".join(["row"] + _read_lines(row))


def parse_row(text):
    """Return the row that a text writes."""
    lines = _split_lines(text)
    wrong = _first_wrong_line(lines, ("row",))
    if wrong is not None:
        raise InvalidNotation(wrong)
    return [_read_of(line) for line in lines[1:]]


def triples_text(triples):
    """Return the written form of the paper with this list of triples."""
    return "\n".join(["alike"] + [_triple_line(triple) for triple in triples])


def unlike_text(row):
    """Return the written form of the paper with this row."""
    return "\n".join(["unlike"] + _read_lines(row))


def paper_text(one, other, *, limit=20000):
    """Return the written form of the paper about two books."""
    row = difference(one, other, limit=limit)
    if row is not None:
        return unlike_text(row)
    return triples_text(closed_list(one, other, limit=limit))


def parse_paper(text):
    """Return the first word of a paper and the list of its triples or of its reads."""
    lines = _split_lines(text)
    wrong = _first_wrong_line(lines, ("alike", "unlike"))
    if wrong is not None:
        raise InvalidPaper(wrong)
    word = lines[0][0]
    if word == "alike":
        return (word, [_triple_of(line) for line in lines[1:]])
    return (word, [_read_of(line) for line in lines[1:]])


def check_text(one, other, text):
    """Tell whether the text of a paper is right for two books."""
    word, rows = parse_paper(text)
    if word == "alike":
        return check_closed(one, other, rows)
    return check_difference(one, other, rows)


def _split_lines(text):
    return [line.split(" ") for line in text.split("\n")]


def _first_wrong_line(lines, first_words):
    """Return the number of the first line that cannot stand where it stands, or None."""
    for at, line in enumerate(lines):
        if not _can_stand(at, line, lines[0][0], first_words):
            return at + 1
    return None


def _can_stand(at, line, first_word, first_words):
    if at == 0:
        return len(line) == 1 and first_word in first_words
    if first_word == "alike":
        return _is_triple_line(line)
    return len(line) == 3 and line[0] == "read" and is_name(line[1]) and is_name(line[2])


def _is_triple_line(line):
    if len(line) < 3 or line[0] != "pair" or not is_name(line[1]) or not is_name(line[2]):
        return False
    return all([_is_pair(word.split("-")) for word in line[3:]])


def _is_pair(parts):
    return len(parts) == 2 and is_integer(parts[0]) and is_integer(parts[1])


def _read_of(line):
    return (line[1], line[2])


def _triple_of(line):
    pairs = [word.split("-") for word in line[3:]]
    return (line[1], line[2], tuple([(int(one), int(two)) for one, two in pairs]))


def _read_lines(row):
    return [f"read {word} {name}" for word, name in row]


def _triple_line(triple):
    place, other, pairs = triple
    return " ".join(["pair", place, other] + [f"{one}-{two}" for one, two in pairs])
