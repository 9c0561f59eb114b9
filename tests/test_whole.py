"""Point 1, over the whole program: no argument is modified, what is kept is copied, and every run is the same."""

import ast
import copy
import os
import unittest

from fewestheld import (alike, books, commands, compared, counts, evidence, feeds, idle, joined, least, library, logs,
                        matchings, memory, notation, reach, runs, session, texts, trials, writers)
from fewestheld.errors import FewestheldError
from tests.samples import again, idle_book, parts, set_book, small_book, small_parts, twice, two_words

PACKAGE = os.path.dirname(os.path.abspath(books.__file__))
ROW = [["in", "x"], ["in", "y"], ["in", "x"]]
TRIPLES = [["s", "s", []], ["one", "one", [[1, 1]]], ["yes", "yes", [[1, 1]]]]
LOG = [[[["in", "x"]], True], [[["in", "y"]], False]]


def some_writer():
    return writers.Writer(twice(), [("one", "in", 1, [("same", 1)])])


def some_trial():
    return trials.trial(set_book(), "one", "both", ((1, 2),))


def feed(call):
    """A call that makes a feed of two books and does something with it."""
    def made(named, *arguments):
        call(feeds.Feed(named), *arguments)
    return made


def change(name):
    """A call that makes one change of a library with two books and a question."""
    def made(*arguments):
        told = library.Library()
        told.set_book("t", twice())
        told.set_book("g", again())
        told.ask("q", "ever", ["t"])
        getattr(told, name)(*arguments)
    return made


def calls():
    """Each function of the interface that takes something that could be modified, with such arguments."""
    book, other = twice(), again()
    two, lists = [["t", book], ["g", other]], [twice(), again(), again((0,))]
    whole = evidence.evidence(small_book())
    found = [(books.Book.with_rule, [again(), ["one", "in", 0, "one", [0]]])]
    found += [(lambda parts_: books.Book(**parts_), [small_parts()])]
    found += [(call, [book, ROW]) for call in (runs.run, runs.trace, runs.cases, runs.answers, runs.says,
                                               memory.remembered)]
    found += [(call, [ROW]) for call in (runs.names_of, runs.kind_of, texts.row_text, texts.unlike_text)]
    found += [(runs.same_kind, [ROW, ROW[::-1]]), (runs.renamed, [ROW, {"x": "y", "y": "x"}])]
    found += [(call, [book]) for call in (notation.format_book, idle.reached_places, idle.idle_slots, least.least,
                                          least.place_map, least.is_least, evidence.evidence, reach.ever_reached,
                                          reach.never_reached, reach.first_answer, reach.fewest_names,
                                          memory.most_remembered, books.Book.turned)]
    found += [(call, [book, 3]) for call in (counts.place_polynomials, counts.yes_polynomial, counts.kind_numbers,
                                             counts.kind_count, runs.kinds_of_rows)]
    found += [(counts.yes_count, [book, 3, 5]), (reach.first_row_to, [book, "yes"]), (idle.symmetries, [book, "yes"]),
              (memory.is_idle, [book, "yes", 1]), (books.Book.with_answer, [book, "one", True]),
              (books.Book.renamed, [book, "one", "two"]), (books.Book.with_start, [book, "s"])]
    found += [(matchings.is_matching, [2, 2, [[1, 2], [2, 1]]]), (matchings.turned, [[[1, 2], [2, 1]]]),
              (matchings.composed, [[[1, 2]], [[2, 1]]]), (matchings.kinds, [2, 1, [[2, 1]]]),
              (matchings.behind, [book, book, TRIPLES[1], "in", [1, 1]]), (matchings.steps, [book, book, TRIPLES[1]]),
              (matchings.agree, [book, book, TRIPLES[1]]), (matchings.triple_of, [book, other, ROW]),
              (matchings.reached, [book, book, TRIPLES[1]]), (matchings.is_closed, [book, book, TRIPLES])]
    found += [(call, [book, other]) for call in (alike.alike, alike.difference, alike.closed_list, compared.first_rows,
                                                 compared.is_within, compared.relation, texts.paper_text)]
    found += [(alike.check_closed, [book, book, TRIPLES]), (alike.check_difference, [book, other, ROW])]
    found += [(evidence.Evidence, [[list(lead) for lead in whole.leads], [list(one) for one in whole.apart],
                                   [list(one) for one in whole.needed]]),
              (evidence.check_evidence, [small_book(), whole])]
    found += [(joined.joined, [book, other, "or"]), (joined.all_joined, [lists, "or"])]
    found += [(feeds.Feed, [two]), (feeds.first_parting, [two, ROW]), (feed(feeds.Feed.push_all), [two, ROW]),
              (feed(feeds.Feed.forgotten), [two, "t", ROW])]
    found += [(library.decide, ["alike", lists[:2]]), (change("ask"), ["r", "alike", ["t", "g"]]),
              (change("set_rule"), ["g", ["one", "in", 0, "one", [0]]]),
              (change("change_all"), [[["ask", "r", "alike", ["t", "g"]], ["drop", "q"], ["remove_book", "x"]]]),
              (change("change_all"), [[["ask", "r", "alike", ["t", "g"]], ["set_book", "x", book]]])]
    found += [(commands.row_of, [["in:x", "in:y"]]), (commands.is_command, [["read", "b", "in:x"]])]
    found += [(texts.triples_text, [TRIPLES]), (compared.first_row, [book, other, [True, True]]),
              (compared.widest, [lists])]
    found += [(writers.Writer, [book, [["one", "in", 1, [["same", 1]]], ["yes", "in", 0, []]]]),
              (writers.written, [some_writer(), ROW]), (writers.writing_list, [some_writer(), some_writer()]),
              (writers.writing_difference, [some_writer(), writers.Writer(book, [])]),
              (writers.is_writing_list, [some_writer(), some_writer(), TRIPLES]),
              (writers.unneeded_slots, [some_writer(), "one"]), (writers.least_writer, [some_writer()]),
              (writers.is_least_writer, [some_writer()])]
    found += [(logs.wrong_rows, [book, LOG]), (logs.is_right, [book, LOG]), (logs.clashes, [LOG]),
              (logs.fewest_changes, [LOG])]
    found += [(trials.Trial, [ROW, ROW, ROW]), (trials.trial, [set_book(), "one", "both", [[1, 2]]]),
              (trials.check_trial, [set_book(), "one", "both", [[1, 2]], some_trial()]),
              (memory.shown, [book, ROW, "x"]), (memory.check_shown, [book, ROW, "x", ["z", [["in", "x"]]]])]
    return found


def seen(value):
    """A value as it can be compared, with objects of the program told by all that they keep."""
    if isinstance(value, (list, tuple)):
        return [value.__class__, [seen(part) for part in value]]
    if isinstance(value, dict):
        return [dict, [(seen(key), seen(part)) for key, part in value.items()]]
    if hasattr(value, "__dict__") and not callable(value):
        return [value.__class__, seen(vars(value))]
    return value


def result(call, arguments):
    try:
        return seen(call(*arguments))
    except FewestheldError as error:
        return seen(error.__class__.__name__)


class TestWhole(unittest.TestCase):
    def test_no_argument_is_modified(self):
        for call, arguments in calls():
            before = seen(arguments)
            result(call, arguments)
            self.assertEqual(seen(arguments), before, call)

    def test_every_call_returns_the_same_again(self):
        for call, arguments in calls():
            self.assertEqual(result(call, arguments), result(call, copy.deepcopy(arguments)), call)

    def test_what_is_returned_can_be_changed(self):
        for call, arguments in calls():
            first = result(call, arguments)
            returned = self.returned(call, arguments)
            if isinstance(returned, list):
                returned.append("x")
                returned.reverse()
                returned.clear()
            self.assertEqual(result(call, arguments), first, call)

    def returned(self, call, arguments):
        try:
            return call(*arguments)
        except FewestheldError:
            return None

    def test_later_changes_of_arguments_have_no_effect(self):
        kept = [(books.Book.with_rule, [again(), ["one", "in", 0, "one", [0]]]),
                (lambda parts_: books.Book(**parts_), [small_parts()]),
                (trials.Trial, [ROW, ROW, ROW]), (feeds.Feed, [[["t", twice()], ["g", again()]]]),
                (writers.Writer, [twice(), [["one", "in", 1, [["same", 1]]]]]),
                (evidence.Evidence, [[["a", [["in", "x"]]]], [["a", "b", [[1, 1]], [["in", "x"]]]],
                                     [["b", 1, [["in", "x"]]]]])]
        for call, arguments in kept:
            arguments = copy.deepcopy(arguments)
            told = call(*arguments)
            before = seen(told)
            self.spoil(arguments)
            self.assertEqual(seen(told), before, call)

    def spoil(self, value):
        """Empty all lists and dicts, from the innermost ones on."""
        if isinstance(value, (list, tuple, dict)):
            for part in list(value.values() if isinstance(value, dict) else value):
                self.spoil(part)
        if isinstance(value, (list, dict)):
            value.clear()

    def test_a_library_and_a_session_keep_copies(self):
        told, names = library.Library(), ["t", "g"]
        rule = ["one", "in", 0, "one", [0]]
        changes = [["set_book", "t", twice()], ["set_book", "g", again()], ["ask", "q", "alike", names],
                   ["set_rule", "g", rule]]
        told.change_all(changes)
        self.spoil(changes)
        self.assertEqual(told.question("q"), ("alike", ("t", "g")))
        self.assertEqual(parts(told.book("g")), parts(again((0,))))
        self.assertEqual(session.Session().run("books"), ["books:"])

    def test_no_clock_no_random_numbers_no_files(self):
        allowed = {"heapq", "math", "itertools", "collections"}
        for name in sorted(os.listdir(PACKAGE)):
            if not name.endswith(".py"):
                continue
            with open(os.path.join(PACKAGE, name), encoding="utf-8") as file:
                tree = ast.parse(file.read())
            for node in ast.walk(tree):
                self.assertNotIsInstance(node, ast.Import)
                if isinstance(node, ast.ImportFrom):
                    self.assertTrue(node.module.startswith("fewestheld.") or node.module in allowed, name)
                if isinstance(node, ast.Name):
                    self.assertNotIn(node.id, ("open", "input", "print", "hash", "id"), name)

    def test_books_do_not_change(self):
        for make in (small_book, twice, two_words, idle_book, set_book):
            book = make()
            least.least(book), evidence.evidence(book), least.place_map(book), memory.most_remembered(book)
            compared.relation(book, book.turned()), joined.joined(book, book.turned(), "either")
            self.assertEqual(seen(book), seen(make()))


if __name__ == "__main__":
    unittest.main()
