"""Point 48: the written form of books."""

import itertools
import random
import unittest

from talepost.booknotes import format_book, parse_book
from talepost.books import Book
from talepost.errors import BadLine
from talepost.letters import Alphabet

from helpers import AB, ABK, random_book

LINES = [f"n{letter} any {first}{second} {first}{second}\n"
         for letter, (first, second) in zip("abcdefghi", itertools.product("-ab", repeat=2))]


class BookNotesTest(unittest.TestCase):
    def refused(self, written, line, alphabet=AB):
        with self.subTest(written=written), self.assertRaises(BadLine) as caught:
            parse_book(alphabet, written)
        self.assertEqual(caught.exception.line, line)

    def test_format(self):
        book = Book(AB, ("x", "ab", "bb", "any"), ("c", "--a", "a-", "inner"), ("m", "b", "b", "opening"))
        self.assertEqual(format_book(book), "c inner --a a-\nm opening b b\nx any ab bb\n")
        self.assertEqual(format_book(Book(AB)), "")
        self.assertEqual(book.names(), ["c", "m", "x"])

    def test_parse(self):
        book = parse_book(AB, "x any ab bb\nm opening b b\nc inner --a a-\n")
        self.assertEqual(book.entries(),
                         [("c", "--a", "a-", "inner"), ("m", "b", "b", "opening"), ("x", "ab", "bb", "any")])
        self.assertEqual(parse_book(AB, ""), Book(AB))
        self.assertIsInstance(book, Book)
        self.assertEqual(book.alphabet, AB)

    def test_there_and_back(self):
        rng = random.Random(48)
        for _ in range(100):
            book = random_book(rng)
            written = format_book(book)
            self.assertEqual(parse_book(AB, written), book)
            lines = written.split("\n")[:-1]
            rng.shuffle(lines)
            self.assertEqual(parse_book(AB, "".join(line + "\n" for line in lines)), book)
            self.assertEqual(written.count("\n"), len(book))

    def test_example(self):
        self.refused("km any abba k\n\n", 2, Alphabet("abk"))
        self.assertEqual(parse_book(ABK, "km any abba k\n"), Book(ABK, ("km", "abba", "k", "any")))

    def test_parts_and_spaces(self):
        good = "x any ab b\n"
        for wrong in ["", " ", "x", "x any ab", "x any ab b b", "x any  ab b", " x any ab b", "x any ab b ", "x  any ab b",
                      "x any ab  b", "x any ab ", " any ab b", "x  ab b", "x\tany ab b", "x any ab b\r", "  any ab b", "    "]:
            self.refused(wrong + "\n", 1)
            self.refused("y any a a\n" + wrong + "\n", 2)
            self.refused(wrong + "\n" + good, 1)
            self.refused(good + "y any a a\n" + wrong + "\n" + "?\n", 3)

    def test_values_that_are_no_entry(self):
        for wrong in ["X any ab b", "x1 any ab b", "abcdefghi any ab b", "x Any ab b", "x start ab b", "x any abc b",
                      "x any ab c", "x any aaaaaaa b", "x any a bbbbbbb", "x any A b", "ab b any x", "x ab b any"]:
            self.refused(wrong + "\n", 1)
        self.assertEqual(len(parse_book(AB, "abcdefgh any aaaaaa bbbbbb\n")), 1)

    def test_names_and_conflicts(self):
        first = "x any ab b\n"
        self.refused(first + first, 2)
        self.refused(first + "x inner a a\n", 2)
        self.refused(first + "y inner ab a\n", 2)
        self.refused(first + "c any a a\n" + "y opening bb b\n", 3)
        self.assertEqual(len(parse_book(AB, "x inner ab b\ny opening ab b\n")), 2)
        self.refused("x inner ab b\ny opening ab b\nz any b b\n", 3)
        # The lines count in the order in which they stand, not in that of the names.
        self.refused("x any ab b\na any ab a\n", 2)

    def test_the_ninth_line(self):
        self.assertEqual(len(parse_book(AB, "".join(LINES[:8]))), 8)
        self.refused("".join(LINES), 9)
        self.refused("".join(LINES[::-1]), 9)
        self.refused("".join(LINES[:8]) + "\n", 9)
        self.refused("".join(LINES[:8]) + "?", 9)
        self.refused("".join(LINES[:4]) + "?\n" + "".join(LINES[4:]), 5)

    def test_a_line_without_its_newline(self):
        self.refused("x any ab b", 1)
        self.refused("x any ab b\ny any a a", 2)
        self.refused("?", 1)
        self.refused(" ", 1)
        self.refused("x any ab b\n ", 2)
        # An earlier line that is not valid counts first.
        self.refused("x any ab\ny any a a", 1)
        self.refused("\n", 1)
        self.refused("\nx any ab b", 1)


if __name__ == "__main__":
    unittest.main()
