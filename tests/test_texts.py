import copy
import unittest

from fewestheld.alike import alike, closed_list, difference
from fewestheld.books import Book
from fewestheld.errors import InvalidNotation, InvalidPaper, InvalidQuestion, TooMany
from fewestheld.texts import (check_text, paper_text, parse_paper, parse_row, row_text, triples_text, unlike_text)
from tests.samples import (again, crossed_book, doubled, idle_book, kind_rows, one_place, random_book, set_book, twice,
                           two_words)

ROWS = [[], [("in", "ann")], [("in", "ann"), ("put", "bob"), ("in", "ann")], [("row", "row"), ("read", "read")],
        [("abcdefghijkl", "a12345678901")]]
TRIPLES = [[], [("a", "b", ())], [("a", "b", ((1, 2),)), ("b", "b", ()), ("a", "a", ((1, 1), (2, 3), (3, 2)))],
           [("pair", "alike", ((0, 0), (12, 345678), (999999, 10)))]]
NO_NAMES = ["A", "1", "a_b", "abcdefghijklm", "a-b", "a\t", "\u00e4"]


class TestRows(unittest.TestCase):
    """Points 75 and 76, rows."""

    def test_written_form(self):
        self.assertEqual(row_text([]), "row")
        self.assertEqual(row_text(ROWS[2]), "row\nread in ann\nread put bob\nread in ann")
        self.assertEqual(row_text((["in", "x"],)), "row\nread in x")
        self.assertEqual(parse_row("row"), [])

    def test_there_and_back(self):
        for row in ROWS + kind_rows(("u", "v"), 4):
            told = parse_row(row_text(row))
            self.assertEqual(told, row)
            self.assertTrue(all(isinstance(read, tuple) for read in told))
            self.assertEqual(row_text(told), row_text(row))

    def refuse(self, line, *lines):
        with self.assertRaises(InvalidNotation) as caught:
            parse_row("\n".join(lines))
        self.assertEqual(caught.exception.line, line, lines)

    def test_the_first_line(self):
        for line in ("", " ", "row ", " row", "Row", "ROW", "rows", "row row", "row 1", "alike", "unlike", "read",
                     "read in ann", "row\t"):
            self.refuse(1, line)
            self.refuse(1, line, "read in ann")

    def test_lines_of_reads(self):
        wrong = ["", " ", "read", "read in", "read in ann bob", " read in ann", "read in ann ", "read  in ann",
                 "read in  ann", "Read in ann", "reads in ann", "row", "pair in ann", "in ann", "read in ann\r"]
        wrong += [f"read {word} ann" for word in NO_NAMES] + [f"read in {word}" for word in NO_NAMES]
        for line in wrong:
            self.refuse(2, "row", line)
            for at in range(1, 5):
                lines = ["row"] + ["read in ann"] * 3
                lines.insert(at, line)
                self.refuse(at + 1, *lines)

    def test_two_faults(self):
        self.refuse(2, "row", "read", "read in ann", "")
        self.refuse(3, "row", "read in ann", "", "Read")
        self.refuse(1, "rows", "read")
        self.refuse(2, "row", "")
        self.refuse(3, "row", "read in ann", "")


class TestPapers(unittest.TestCase):
    """Points 75 and 76, papers."""

    def test_written_forms(self):
        self.assertEqual(triples_text([]), "alike")
        self.assertEqual(triples_text(TRIPLES[2]), "alike\npair a b 1-2\npair b b\npair a a 1-1 2-3 3-2")
        self.assertEqual(triples_text([["a", "b", [[1, 2], [2, 1]]]]), "alike\npair a b 1-2 2-1")
        self.assertEqual(unlike_text([]), "unlike")
        self.assertEqual(unlike_text(ROWS[2]), "unlike\nread in ann\nread put bob\nread in ann")

    def test_there_and_back(self):
        for triples in TRIPLES:
            self.assertEqual(parse_paper(triples_text(triples)), ("alike", triples))
        for row in ROWS:
            self.assertEqual(parse_paper(unlike_text(row)), ("unlike", row))
        for seed in range(20):
            triples = closed_list(random_book(seed, words=("u", "v")), random_book(seed, words=("u", "v")))
            self.assertEqual(parse_paper(triples_text(triples)), ("alike", triples))

    def test_kinds_of_values(self):
        _, rows = parse_paper("alike\npair a b 1-2 10-0\npair a a")
        self.assertEqual(rows, [("a", "b", ((1, 2), (10, 0))), ("a", "a", ())])
        for triple in rows:
            self.assertIsInstance(triple, tuple)
            self.assertIsInstance(triple[2], tuple)
            self.assertTrue(all(isinstance(pair, tuple) for pair in triple[2]))
        self.assertIsInstance(parse_paper("unlike\nread in ann")[1][0], tuple)

    def refuse(self, line, *lines):
        text = "\n".join(lines)
        for call in (parse_paper, lambda it: check_text(twice(), twice(), it),
                     lambda it: check_text(twice(), two_words(), it)):
            with self.assertRaises(InvalidPaper) as caught:
                call(text)
            self.assertEqual(caught.exception.line, line, lines)

    def test_the_first_line(self):
        for line in ("", " ", "alike ", " alike", "Alike", "alikes", "alike alike", "alike 1", "unlike ", " unlike",
                     "UNLIKE", "unlike read", "row", "pair a b", "read in ann", "alike\r"):
            self.refuse(1, line)
            self.refuse(1, line, "pair a b")
            self.refuse(1, line, "read in ann")

    def test_lines_of_pairs(self):
        wrong = ["", " ", "pair", "pair a", "pair a b ", " pair a b", "pair  a b", "pair a  b", "pair a b  1-1",
                 "pair a b 1-1 ", "Pair a b", "pairs a b", "read a b", "alike", "unlike", "a b", "pair a b c"]
        wrong += [f"pair {word} b 1-1" for word in NO_NAMES] + [f"pair a {word} 1-1" for word in NO_NAMES]
        pairs = ["1", "11", "-", "1-", "-1", "1--1", "1-1-1", "01-1", "1-01", "00-1", "1-00", "1234567-1", "1-1234567",
                 "0000001-1", "+1-1", "1-+1", "1_0-1", "a-1", "1-a", "1:1", "1-1,", "\u0661-1", "1-\u00b2", "1.0-1"]
        wrong += [f"pair a b {pair}" for pair in pairs] + [f"pair a b 1-1 {pair} 2-2" for pair in pairs]
        for line in wrong:
            self.refuse(2, "alike", line)
            for at in range(1, 5):
                lines = ["alike"] + ["pair a b 1-1 2-2"] * 3
                lines.insert(at, line)
                self.refuse(at + 1, *lines)

    def test_lines_of_reads(self):
        for line in ("", "read", "read in", "read in ann bob", "read in ann ", " read in ann", "read  in ann",
                     "pair a b", "Read in ann", "read In ann", "read in 1", "unlike", "in ann"):
            for at in range(1, 5):
                lines = ["unlike"] + ["read in ann"] * 3
                lines.insert(at, line)
                self.refuse(at + 1, *lines)

    def test_two_faults(self):
        self.refuse(2, "alike", "pair a", "pair a b", "")
        self.refuse(3, "alike", "pair a b 1-1", "pair a b 1", "pair")
        self.refuse(2, "unlike", "", "read")
        self.refuse(1, "row", "")

    def test_numbers(self):
        self.assertEqual(parse_paper("alike\npair a b 0-0 999999-100000"),
                         ("alike", [("a", "b", ((0, 0), (999999, 100000)))]))


class TestRight(unittest.TestCase):
    """Point 77."""

    def couples(self):
        books = [twice(), again(), again((0,)), idle_book(), set_book(), crossed_book(), doubled(again(), 1),
                 doubled(set_book(), 2), one_place(), twice().turned()]
        found = [(one, other) for one in books for other in books]
        return found + [(random_book(seed), random_book(seed + 1)) for seed in range(40)]

    def test_papers(self):
        for one, other in self.couples():
            text = paper_text(one, other)
            word, rows = parse_paper(text)
            if alike(one, other):
                self.assertEqual((word, rows), ("alike", closed_list(one, other)))
            else:
                self.assertEqual((word, rows), ("unlike", difference(one, other)))
            self.assertIs(check_text(one, other, text), True)

    def test_what_the_first_word_says(self):
        for one, other in self.couples():
            for text in [paper_text(*couple) for couple in self.couples()[::9]] + ["alike", "unlike"]:
                if check_text(one, other, text):
                    self.assertEqual(text.split("\n")[0] == "alike", alike(one, other))

    def test_papers_that_are_not_right(self):
        one, other = again(), doubled(again(), 1)
        lines = paper_text(one, other).split("\n")
        self.assertGreater(len(lines), 3)
        for at in range(1, len(lines)):
            self.assertIs(check_text(one, other, "\n".join(lines[:at] + lines[at + 1:])), False)
            self.assertIs(check_text(one, other, "\n".join(lines + [lines[at]])), True)
        self.assertIs(check_text(one, other, "\n".join(lines[:1] + lines[:0:-1])), True)
        for line in ("pair x start", "pair start x", "pair one one 1-1 2-2", "pair one one 1-2", "pair one one 2-1",
                     "pair one one 0-1", "pair one one 1-0", "pair one one 1-1 1-1", "pair one one 999999-1",
                     "pair start start 1-1", "pair one again"):
            for at in range(1, len(lines) + 1):
                self.assertIs(check_text(one, other, "\n".join(lines[:at] + [line] + lines[at:])), False, line)
        self.assertIs(check_text(one, other, "alike"), False)
        self.assertIs(check_text(one, other, "unlike"), False)
        self.assertIs(check_text(one, one.turned(), "alike\npair start start"), False)

    def test_pairs_in_another_order_are_no_matching(self):
        book = set_book()
        lines = paper_text(book, book).split("\n")
        crossed = [line.replace("1-1 2-2", "2-2 1-1") for line in lines]
        self.assertNotEqual(lines, crossed)
        self.assertIs(check_text(book, book, "\n".join(lines)), True)
        self.assertIs(check_text(book, book, "\n".join(crossed)), False)

    def test_rows_of_papers(self):
        one, other = again(), again((0,))
        self.assertEqual(paper_text(one, other), "unlike\nread in a1\nread in a2\nread in a1")
        self.assertIs(check_text(one, other, "unlike\nread in x\nread in y\nread in x"), True)
        self.assertIs(check_text(one, other, "unlike\nread in x\nread in x\nread in x"), False)
        self.assertIs(check_text(one, other, "unlike"), False)
        self.assertIs(check_text(one, other, "unlike\nread in x\nread in y\nread in x\nread on x"), False)
        self.assertIs(check_text(one, one.turned(), "unlike\nread on x"), False)
        self.assertIs(check_text(one, one.turned(), "unlike"), True)

    def test_unlike_words(self):
        book = two_words()
        turned = Book(words=book.words[::-1], places=book.places, start=book.start, rules=book.rules)
        for one, other in ((twice(), book), (book, turned), (twice(), one_place("on"))):
            self.assertRaises(InvalidQuestion, paper_text, one, other)
            self.assertRaises(InvalidQuestion, paper_text, one, other, limit=0)
            for text in ("alike", "unlike", "alike\npair x y 1-1", "unlike\nread x y"):
                self.assertRaises(InvalidQuestion, check_text, one, other, text)
            self.assertRaises(InvalidPaper, check_text, one, other, "alike\n")

    def test_limits(self):
        for one, other in self.couples():
            for limit in range(7):
                try:
                    wanted = paper_text(one, other)
                    if difference(one, other, limit=limit) is None:
                        closed_list(one, other, limit=limit)
                except TooMany:
                    with self.assertRaises(TooMany) as caught:
                        paper_text(one, other, limit=limit)
                    self.assertEqual(caught.exception.limit, limit)
                else:
                    self.assertEqual(paper_text(one, other, limit=limit), wanted)

    def test_arguments_stay(self):
        row, triples = [["in", "ann"]], [["a", "b", [[1, 2]]]]
        kept = copy.deepcopy((row, triples))
        row_text(row), unlike_text(row), triples_text(triples)
        self.assertEqual((row, triples), kept)


class TestExamples(unittest.TestCase):
    def test_the_examples_of_the_interface(self):
        self.assertEqual(row_text([("in", "ann"), ("in", "bob")]), "row\nread in ann\nread in bob")
        rules = [("a", "in", 0, "b", [0]), ("b", "in", 1, "b", [1]), ("b", "in", 0, "a", [])]
        one = Book(words=["in"], places=[("a", 0, True), ("b", 1, True)], start="a", rules=rules)
        self.assertEqual(paper_text(one, one.with_answer("b", False)), "unlike\nread in a1")
        self.assertEqual(paper_text(one, one), "alike\npair a a\npair b b 1-1")
        self.assertEqual((check_text(one, one.turned(), "unlike"), check_text(one, one, "alike\npair a a")),
                         (True, False))
        self.assertEqual(parse_paper("alike\npair a a 1-1"), ("alike", [("a", "a", ((1, 1),))]))
        self.assertRaises(InvalidPaper, parse_paper, "row")
