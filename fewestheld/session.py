"""Sessions: a library that is used by lines of text (points 70 to 74)."""

from fewestheld.commands import is_command, row_of, split_words
from fewestheld.errors import (InvalidBook, InvalidNotation, InvalidQuestion, NameInUse, NothingToRedo, NothingToUndo,
                               UnknownName)
from fewestheld.feeds import Feed
from fewestheld.library import Library
from fewestheld.notation import format_book, parse_book


def _set_answer(library, words):
    library.set_answer(words[1], words[2], words[3] == "yes")
    return ["ok"]


def _remove_book(library, words):
    library.remove_book(words[1])
    return ["ok"]


def _ask(library, words):
    library.ask(words[1], words[2], words[3:])
    return ["ok"]


def _drop(library, words):
    library.drop(words[1])
    return ["ok"]


def _undo(library, _):
    library.undo()
    return ["ok"]


def _redo(library, _):
    library.redo()
    return ["ok"]


def _tell_answer(library, words):
    return [_answer_line(words[1], library.answer(words[1]))]


def _tell_answers(library, _):
    return [_answer_line(name, answer) for name, answer in library.answers()]


def _tell_book(library, words):
    return format_book(library.book(words[1])).split("\n")


def _tell_read(library, words):
    name = words[1]
    feed = Feed([(name, library.book(name))])
    feed.push_all(row_of(words[2:]))
    answer = "yes" if feed.answer(name) else "no"
    return [" ".join([answer, feed.place(name)] + list(feed.held(name)))]


def _tell_books(library, _):
    return [" ".join(["books:"] + library.book_names())]


def _tell_questions(library, _):
    return [" ".join(["questions:"] + library.question_names())]


def _answer_line(name, answer):
    return " ".join([f"{name}:"] + [str(part) for part in answer])


# All commands but the one that opens a block, by their first words.
ACTIONS = {
    "set": _set_answer, "remove": _remove_book, "ask": _ask, "drop": _drop, "undo": _undo, "redo": _redo,
    "answer": _tell_answer, "answers": _tell_answers, "print": _tell_book, "read": _tell_read,
    "books": _tell_books, "questions": _tell_questions,
}


class Session:
    """A library with lines that change it and ask it."""

    def __init__(self):
        self.library = Library()
        # The name of the book of the open block and the lines that were taken, or None.
        self._block = None

    def run(self, text):
        """Do the lines of a text in order, and return all lines that they answer."""
        told = []
        for at, line in enumerate(text.split("\n")):
            words = split_words(line)
            if words:
                told.extend(self._line_answers(at + 1, words))
        return told

    def _line_answers(self, number, words):
        if self._block is None and not is_command(words):
            return [f"line {number}: invalid command"]
        try:
            return self._do(words)
        except UnknownName as unknown:
            return [f"line {number}: unknown name {unknown.name}"]
        except NameInUse as taken:
            return [f"line {number}: name in use {taken.name}"]
        except InvalidNotation as broken:
            return [f"line {number}: invalid notation {broken.line}"]
        except InvalidBook:
            return [f"line {number}: invalid book"]
        except InvalidQuestion:
            return [f"line {number}: invalid question"]
        except NothingToUndo:
            return [f"line {number}: nothing to undo"]
        except NothingToRedo:
            return [f"line {number}: nothing to redo"]

    def _do(self, words):
        if self._block is not None:
            return self._take(words)
        if words[0] == "book":
            self._block = (words[1], [])
            return ["ok"]
        action = ACTIONS[words[0]]
        return action(self.library, words)

    def _take(self, words):
        """Take a line of the open block, or close the block."""
        name, lines = self._block
        if words != ["end"]:
            lines.append(" ".join(words))
            return []
        # The block is closed whatever is raised from here on.
        self._block = None
        self.library.set_book(name, parse_book("\n".join(lines)))
        return ["ok"]
