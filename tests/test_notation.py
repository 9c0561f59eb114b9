import unittest

from fewestheld.books import Book
from fewestheld.errors import FewestheldError, InvalidBook, InvalidNotation
from fewestheld.notation import format_book, parse_book
from tests.samples import parts, random_book, small_book, two_words

SMALL = ["words in", "start a", "place a 0 yes", "place b 1 no", "rule a in 0 b 0", "rule b in 0 b 1", "rule b in 1 a"]


class TestWritten(unittest.TestCase):
    """Point 8."""

    def test_written_form(self):
        self.assertEqual(format_book(small_book()), "\n".join(SMALL))

    def test_several_words_and_slots(self):
        lines = format_book(two_words()).split("\n")
        self.assertEqual(lines[:5], ["words put ask", "start zero", "place zero 0 no", "place one 1 yes",
                                     "place two 2 no"])
        self.assertEqual(lines[5:8], ["rule zero put 0 one 0", "rule zero ask 0 zero", "rule one put 0 two 0 1"])
        self.assertEqual(lines[-1], "rule two ask 2 one 1")
        self.assertEqual(len(lines), 17)

    def test_the_book_is_not_changed(self):
        book = two_words()
        before = parts(book)
        format_book(book)
        self.assertEqual(parts(book), before)


class TestParsed(unittest.TestCase):
    """Point 9, what has the form."""

    def test_there_and_back(self):
        books = [small_book(), two_words()] + [random_book(seed, words=("u", "v")) for seed in range(40)]
        for book in books:
            text = format_book(book)
            self.assertEqual(parts(parse_book(text)), parts(book))
            self.assertEqual(format_book(parse_book(text)), text)

    def test_orders_within_a_sort(self):
        lines = SMALL[:2] + SMALL[2:4][::-1] + SMALL[4:][::-1]
        book = parse_book("\n".join(lines))
        self.assertEqual(book.places, (("b", 1, False), ("a", 0, True)))
        self.assertEqual([rule[:3] for rule in book.rules], [("b", "in", 0), ("b", "in", 1), ("a", "in", 0)])
        self.assertEqual(book.start, "a")

    def test_an_answer_as_a_name(self):
        text = "words rule\nstart yes\nplace yes 0 no\nrule yes rule 0 yes"
        self.assertEqual(format_book(parse_book(text)), text)


class TestRefused(unittest.TestCase):
    """Point 9, what has another form."""

    def refuse(self, line, text):
        with self.assertRaises(InvalidNotation) as caught:
            parse_book(text)
        self.assertEqual(caught.exception.line, line, text)

    def refuse_line(self, number, line):
        lines = list(SMALL)
        lines[number - 1] = line
        self.refuse(number, "\n".join(lines))

    def test_blanks(self):
        for number, line in enumerate(SMALL, 1):
            self.refuse_line(number, line + " ")
            self.refuse_line(number, " " + line)
            self.refuse_line(number, line.replace(" ", "  ", 1))
            self.refuse_line(number, line.replace(" ", "\t", 1))
            self.refuse_line(number, line + "\r")

    def test_capital_letters(self):
        for number, line in enumerate(SMALL, 1):
            self.refuse_line(number, line.capitalize())
            self.refuse_line(number, line.upper())

    def test_empty_lines(self):
        self.refuse(1, "")
        self.refuse(1, "\n")
        self.refuse(1, "\n" + "\n".join(SMALL))
        self.refuse(2, "words in\n")
        for number in range(1, 8):
            self.refuse_line(number, "")
        self.refuse(8, "\n".join(SMALL) + "\n")
        self.refuse(8, "\n".join(SMALL) + "\n\n")

    def test_the_text_ends_behind_its_first_line(self):
        for text in ["words in", "words", "words in in", "words a b c d e"]:
            self.refuse(2, text)
        for text in ["words In", "words 1", "start a", "word in", "words in ", "words  in", " "]:
            self.refuse(1, text)

    def test_the_first_two_lines(self):
        self.refuse(1, "\n".join(SMALL[1:]))
        self.refuse(2, "\n".join(SMALL[:1] + SMALL[2:]))
        self.refuse(1, "\n".join(SMALL[2:]))
        self.refuse(2, "\n".join(SMALL[:1] + SMALL))
        self.refuse(3, "\n".join(SMALL[:2] + SMALL[1:]))
        self.refuse(3, "\n".join(SMALL[:2] + SMALL))
        self.refuse(1, "\n".join([SMALL[1], SMALL[0]] + SMALL[2:]))
        self.refuse_line(2, "start")
        self.refuse_line(2, "start a b")
        self.refuse_line(2, "start 1")
        self.refuse_line(2, "start abcdefghijklm")

    def test_places(self):
        for line in ["place", "place a", "place a 0", "place a 0 yes yes", "place a 0 maybe", "place a 0 true",
                     "place 1 0 yes", "place abcdefghijklm 0 yes", "place a b yes", "place 0 yes", "place a yes 0"]:
            self.refuse_line(3, line)

    def test_rules(self):
        for line in ["rule", "rule a in 0", "rule a in b 0", "rule a 0 b 0", "rule 1 in 0 b 0", "rule a 1 0 b 0",
                     "rule a in 0 1 0", "rule a in 0 b x", "rule a in 0 b 0 x", "rule a in x b 0",
                     "rule a-b in 0 b 0", "rule abcdefghijklm in 0 b 0"]:
            self.refuse_line(5, line)

    def test_integers(self):
        for word in ["00", "01", "-1", "+1", "1.0", "1000000", "0000001", "1_0", "x", "\u0661", "\u00b2", "1e1"]:
            self.refuse_line(3, f"place a {word} yes")
            self.refuse_line(5, f"rule a in {word} b 0")
            self.refuse_line(5, f"rule a in 0 b {word}")

    def test_other_first_words(self):
        for line in ["end", "a", "words", "places a 0 yes", "ruler a in 0 b 0", "plac a 0 yes", "# place a 0 yes"]:
            self.refuse_line(3, line)
            self.refuse_line(6, line)

    def test_a_place_behind_a_rule(self):
        self.refuse(5, "\n".join(SMALL[:3] + [SMALL[4], SMALL[3]] + SMALL[5:]))
        self.refuse(8, "\n".join(SMALL + ["place c 0 yes"]))

    def test_the_first_such_line_is_told(self):
        self.refuse(3, "words in\nstart a\nplace\nrule\n")
        self.refuse(5, "\n".join(SMALL[:4] + ["rule", "place c 0 yes", ""]))

    def test_the_form_comes_ahead_of_the_book(self):
        self.refuse(4, "words in in\nstart z\nplace a 9 yes\nplace a 9 maybe")

    def test_it_is_a_fewestheld_error(self):
        with self.assertRaises(FewestheldError):
            parse_book("")


class TestNoBooks(unittest.TestCase):
    """Point 10."""

    def refuse(self, *lines):
        with self.assertRaises(InvalidBook):
            parse_book("\n".join(lines))

    def test_no_books_in_the_right_form(self):
        self.refuse("words in", "start a")
        self.refuse("words", "start a", "place a 0 yes")
        self.refuse("words", *SMALL[1:])
        self.refuse("words in in", *SMALL[1:])
        self.refuse("words in b c d", *SMALL[1:])
        self.refuse("words in", "start b", *SMALL[2:])
        self.refuse("words in", "start c", *SMALL[2:])
        self.refuse(*SMALL[:2], *SMALL[4:])
        self.refuse(*SMALL[:4])
        self.refuse(*SMALL[:6])
        self.refuse(*SMALL, SMALL[6])
        self.refuse(*SMALL[:3], SMALL[2], *SMALL[3:])
        self.refuse(*SMALL[:3], "place b 7 no", *SMALL[4:])
        self.refuse(*SMALL[:3], "place b 999999 no", *SMALL[4:])
        self.refuse(*SMALL[:6], "rule b in 1 b 0")
        self.refuse(*SMALL[:6], "rule b in 1 b")
        self.refuse(*SMALL[:6], "rule b in 1 b 1 1")
        self.refuse(*SMALL[:6], "rule b in 2 a")
        self.refuse(*SMALL[:6], "rule c in 1 a")
        self.refuse(*SMALL[:6], "rule b on 1 a")
        self.refuse(*SMALL[:6], "rule b in 1 c")

    def test_too_many_places(self):
        names = [f"p{number}" for number in range(61)]
        places = [f"place {name} 0 yes" for name in names]
        rules = [f"rule {name} in 0 {name}" for name in names]
        parse_book("\n".join(["words in", "start p0"] + places[:60] + rules[:60]))
        self.refuse("words in", "start p0", *places, *rules)


class TestExamples(unittest.TestCase):
    def test_the_examples_of_the_interface(self):
        text = "words in\nstart a\nplace a 0 yes\nplace b 1 no\nrule b in 0 b 1\nrule a in 0 b 0\nrule b in 1 a"
        written = "words in\nstart a\nplace a 0 yes\nplace b 1 no\nrule a in 0 b 0\nrule b in 0 b 1\nrule b in 1 a"
        self.assertEqual(format_book(parse_book(text)), written)
        self.assertIsInstance(parse_book(text), Book)
        with self.assertRaises(InvalidBook):
            parse_book("words in\nstart a\nplace a 0 yes")
        with self.assertRaises(InvalidNotation):
            parse_book("words in\nplace a 0 yes")
