"""Logs: rows with the answers that are told behind them (points 97 to 99)."""

from fewestheld.runs import kind_of, says


def wrong_rows(book, log):
    """Return the places of the entries with which a book is not right."""
    return [at for at, (row, yes) in enumerate(log) if says(book, row) != yes]


def is_right(book, log):
    """Tell whether a book is right with all entries."""
    return len(wrong_rows(book, log)) == 0


def clashes(log):
    """Return the pairs of places of entries that clash, in ascending order."""
    found = []
    for saying_yes, saying_no in _sides(log):
        found.extend([(min(one, other), max(one, other)) for one in saying_yes for other in saying_no])
    return sorted(found)


def fewest_changes(log):
    """Return the places of the fewest entries to be changed so that no two entries clash."""
    found = []
    for saying_yes, saying_no in _sides(log):
        found.extend(saying_yes if len(saying_yes) <= len(saying_no) else saying_no)
    return sorted(found)


def _sides(log):
    """Return, for each kind of rows, the places of the entries with True and of those with False."""
    sides = {}
    for at, (row, yes) in enumerate(log):
        kind = tuple(kind_of(row))
        if kind not in sides:
            sides[kind] = ([], [])
        sides[kind][0 if yes else 1].append(at)
    return list(sides.values())
