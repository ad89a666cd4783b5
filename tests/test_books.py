"""Points 39 to 43: books, their scans, and their machines."""

import inspect
import random
import unittest

from talepost.books import Book
from talepost.errors import BadForm, BadName, BadText, Conflict, DuplicateName, TooMany, UnknownKind, UnknownName
from talepost.errors import UnknownPlace
from talepost.letters import Alphabet
from talepost.scanning import expand, read_steps, shorten, write_steps
from talepost.standings import reader, writer
from talepost.sure import is_certain

from helpers import AB, ABK, OTHER, all_texts, random_book, slow_scan

EIGHT = [("n" + letter, "ab-"[at % 3] + "ab-"[at // 3], "a" * (at % 4 + 1) + "b" * (at // 4), "any")
         for at, letter in enumerate("abcdefgh")]


class BookTest(unittest.TestCase):
    def raised(self, kind, *entries, alphabet=AB):
        with self.assertRaises(kind) as caught:
            Book(alphabet, *entries)
        return list(vars(caught.exception).values())

    def test_questions(self):
        book = Book(AB, ("x", "ab", "a", "any"), ("c", "b", "ab-aba", "inner"))
        self.assertEqual(book.names(), ["c", "x"])
        self.assertEqual(book.entries(), [("c", "b", "ab-aba", "inner"), ("x", "ab", "a", "any")])
        self.assertEqual(len(book), 2)
        self.assertEqual(book["c"], ("c", "b", "ab-aba", "inner"))
        self.assertIs("x" in book, True)
        self.assertIs("y" in book, False)
        self.assertEqual(book.alphabet, AB)
        self.assertEqual(Book.MOST, 8)
        with self.assertRaises(UnknownName) as caught:
            book["d"]
        self.assertEqual(caught.exception.name, "d")
        self.assertRaises(TypeError, iter, book)
        self.assertRaises(TypeError, list, book)
        book.names().append("y")
        book.entries().clear()
        self.assertEqual([book.names(), len(book.entries())], [["c", "x"], 2])
        self.assertEqual([Book(AB).names(), Book(AB).entries(), len(Book(AB))], [[], [], 0])

    def test_eight_and_nine(self):
        book = Book(AB, *EIGHT)
        self.assertEqual(len(book), 8)
        self.assertEqual(self.raised(TooMany, *EIGHT, ("", "?", "?", "?")), [8])
        with self.assertRaises(TooMany) as caught:
            book + ("", "", "", "")
        self.assertEqual(caught.exception.most, 8)

    def test_names(self):
        for name in ["", "abcdefghi", "A", "a1", "a b", "a-b", "\u00e4"]:
            self.assertEqual(self.raised(BadName, (name, "?", "", "?")), [name])
        self.assertEqual(Book(AB, ("abcdefgh", "a", "a", "any")).names(), ["abcdefgh"])

    def test_forms(self):
        for form in ["", "a" * 7, "c", "a b", "A"]:
            self.assertEqual(self.raised(BadForm, ("x", form, "??", "?")), [form])
            self.assertEqual(self.raised(BadForm, ("x", "a" * 6, form, "?")), [form])
        self.assertEqual(len(Book(AB, ("x", "-", "------", "any"))), 1)

    def test_places(self):
        for place in ["", "start", "letter", "Any", "joint", "any "]:
            self.assertEqual(self.raised(UnknownPlace, ("x", "a", "b", place)), [place])

    def test_duplicates_and_conflicts(self):
        first = ("x", "ab", "b", "any")
        self.assertEqual(self.raised(DuplicateName, first, ("x", "ab", "b", "any")), ["x"])
        self.assertEqual(self.raised(Conflict, first, ("y", "ab", "a", "inner")), ["y", "x"])
        self.assertEqual(self.raised(Conflict, first, ("y", "a", "b", "opening")), ["y", "x"])
        self.assertEqual(self.raised(Conflict, ("z", "a", "b", "inner"), ("y", "b", "a", "any"), ("x", "b", "b", "any")),
                         ["x", "z"])
        self.assertEqual(len(Book(AB, ("x", "ab", "b", "opening"), ("y", "ab", "b", "inner"))), 2)
        self.assertEqual(len(Book(AB, ("x", "ab", "b", "any"), ("y", "b", "ab", "any"))), 2)
        self.assertEqual(self.raised(Conflict, ("x", "ab", "b", "inner"), ("y", "ab", "a", "inner")), ["y", "x"])

    def test_order_of_errors(self):
        bad = [(BadName, ("", "", "", "")), (BadForm, ("x", "", "", "")), (BadForm, ("x", "a", "?", "")),
               (UnknownPlace, ("x", "a", "b", "?")), (DuplicateName, ("x", "a", "b", "any")),
               (Conflict, ("y", "a", "b", "any"))]
        for kind, entry in bad:
            self.raised(kind, ("x", "a", "b", "any"), entry, ("?", "", "", ""))

    def test_plus_and_minus(self):
        book = Book(AB, ("x", "ab", "b", "any"))
        more = book + ("c", "b", "a", "inner")
        self.assertEqual(more, Book(AB, ("c", "b", "a", "inner"), ("x", "ab", "b", "any")))
        self.assertEqual(len(book), 1)
        self.assertEqual(more - "c", book)
        self.assertEqual(len(more), 2)
        for deed, kind, values in [(lambda: more - "d", UnknownName, ["d"]), (lambda: more + ("c", "-", "-", "any"),
                                                                              DuplicateName, ["c"]),
                                   (lambda: more + ("d", "b", "b", "inner"), Conflict, ["d", "c"]),
                                   (lambda: more + ("?", "b", "b", "inner"), BadName, ["?"])]:
            with self.assertRaises(kind) as caught:
                deed()
            self.assertEqual(list(vars(caught.exception).values()), values)
        self.assertEqual(more.names(), ["c", "x"])

    def test_earliest_conflict_in_order_of_names(self):
        book = Book(AB, ("z", "a", "b", "opening"), ("m", "a", "b", "inner"))
        with self.assertRaises(Conflict) as caught:
            book + ("a", "a", "b", "any")
        self.assertEqual(caught.exception.other, "m")

    def test_equal(self):
        one, other = ("x", "ab", "b", "any"), ("y", "b", "a", "any")
        self.assertEqual(Book(AB, one, other), Book(AB, other, one))
        self.assertNotEqual(Book(AB, one), Book(AB, other))
        self.assertNotEqual(Book(AB, one), Book(OTHER, one))
        self.assertIs(Book(AB) == "", False)

    def test_methods_stand_in_the_class(self):
        listed = "names entries __len__ __contains__ __getitem__ __add__ __sub__ __eq__ __init__".split()
        self.assertLessEqual(set(listed), set(vars(Book)))


class ScanningTest(unittest.TestCase):
    def setUp(self):
        self.book = Book(ABK, ("km", "abba", "k", "any"), ("kn", "ab", "kk", "inner"), ("ko", "a", "b", "opening"))

    def test_steps(self):
        self.assertEqual(list(write_steps(self.book, "aabbab-a")),
                         [(0, "ko", "b"), (1, "km", "k"), (5, "", "b"), (6, "", "-"), (7, "ko", "b")])
        self.assertEqual(list(write_steps(self.book, "bab-ab")),
                         [(0, "", "b"), (1, "kn", "kk"), (3, "", "-"), (4, "ko", "b"), (5, "", "b")])
        self.assertEqual(list(read_steps(self.book, "bkk-b")),
                         [(0, "ko", "a"), (1, "kn", "ab"), (3, "", "-"), (4, "ko", "a")])
        self.assertEqual(list(read_steps(self.book, "kkk")), [(0, "km", "abba"), (1, "kn", "ab")])
        self.assertEqual(shorten(self.book, "aabbab-a"), "bkb-b")
        self.assertEqual(expand(self.book, "bkk-b"), "aab-a")
        self.assertEqual([shorten(self.book, ""), expand(self.book, "")], ["", ""])
        self.assertEqual(list(write_steps(self.book, "")), [])
        self.assertTrue(inspect.isgenerator(write_steps(self.book, "")))
        self.assertTrue(inspect.isgenerator(read_steps(self.book, "")))

    def test_longest_form(self):
        book = Book(AB, ("x", "a", "-", "any"), ("y", "aab", "b", "any"))
        self.assertEqual(shorten(book, "aaab"), "-b")
        self.assertEqual(shorten(book, "aaa"), "---")
        self.assertEqual(expand(book, "-b"), "aaab")

    def test_kind_of_what_is_produced(self):
        book = Book(AB, ("x", "a-", "b", "any"), ("y", "bb", "a", "opening"))
        self.assertEqual(expand(book, "ba"), "a-bb")
        self.assertEqual(expand(book, "aa"), "bba")
        self.assertEqual(shorten(book, "a-bb"), "ba")
        self.assertEqual(shorten(book, "bbbb"), "abb")

    def test_after(self):
        for after, written, read in [("start", "bkk", "aab"), ("joint", "bkk", "aab"), ("letter", "akk", "bab")]:
            self.assertEqual(shorten(self.book, "aab", after=after), written)
            self.assertEqual(expand(self.book, "bkk", after=after), read)
            self.assertEqual("".join(piece for _, _, piece in write_steps(self.book, "aab", after=after)), written)
            self.assertEqual("".join(piece for _, _, piece in read_steps(self.book, "bkk", after=after)), read)
        self.assertEqual(shorten(self.book, "-a", after="letter"), "-b")

    def test_errors(self):
        for function in [shorten, expand, lambda *args, **more: list(write_steps(*args, **more)),
                         lambda *args, **more: list(read_steps(*args, **more))]:
            with self.assertRaises(BadText) as caught:
                function(self.book, "a?", after="?")
            self.assertEqual(caught.exception.text, "a?")
            for kind in ["", "any", "opening", "inner", "Start"]:
                with self.assertRaises(UnknownKind) as caught:
                    function(self.book, "", after=kind)
                self.assertEqual(caught.exception.kind, kind)
            self.assertRaises(TypeError, function, self.book, "a", "start")
        for function in [write_steps, read_steps]:
            steps = function(self.book, "?", after="?")
            self.assertRaises(BadText, next, steps)

    def test_random_scans(self):
        rng = random.Random(61)
        for _ in range(60):
            book = random_book(rng)
            for _ in range(20):
                text = "".join(rng.choice("-ab") for _ in range(rng.randint(0, 60)))
                for after in ["start", "joint", "letter"]:
                    steps = slow_scan(book.entries(), text, after, False)
                    self.assertEqual(list(write_steps(book, text, after=after)), steps)
                    self.assertEqual(shorten(book, text, after=after), "".join(step[2] for step in steps))
                    steps = slow_scan(book.entries(), text, after, True)
                    self.assertEqual(list(read_steps(book, text, after=after)), steps)
                    self.assertEqual(expand(book, text, after=after), "".join(step[2] for step in steps))


class StandingsTest(unittest.TestCase):
    def test_machines(self):
        rng = random.Random(62)
        for _ in range(15):
            book = random_book(rng)
            texts = all_texts(AB, 3) + ["".join(rng.choice("-ab") for _ in range(15)) for _ in range(10)]
            writing, reading = writer(book), reader(book)
            self.assertTrue(is_certain(writing) and is_certain(reading))
            using = {name: writer(book, using=name) for name in book.names()}
            taking = {name: reader(book, taking=name) for name in book.names()}
            for text in texts:
                self.assertEqual(writing.outs(text), [shorten(book, text)])
                self.assertEqual(reading.outs(text), [expand(book, text)])
                for name in book.names():
                    used = name in [step[1] for step in write_steps(book, text)]
                    taken = name in [step[1] for step in read_steps(book, text)]
                    self.assertEqual(using[name].outs(text), [shorten(book, text)] if used else [])
                    self.assertEqual(taking[name].outs(text), [expand(book, text)] if taken else [])

    def test_longest_forms(self):
        book = Book(AB, *EIGHT[:6], ("zy", "abab-a", "b-bbbb", "inner"), ("zz", "abab-a", "b-----", "opening"))
        text = "babab-abab-a-abab-aa" * 3
        self.assertEqual(writer(book).outs(text), [shorten(book, text)])
        self.assertEqual(reader(book).outs(text), [expand(book, text)])
        for text, used in [("bbabab-a", "zy"), ("abab-a", "zz"), ("-abab-", None)]:
            for name in ["zy", "zz"]:
                outs = [shorten(book, text)] if name == used else []
                self.assertEqual(writer(book, using=name).outs(text), outs)

    def test_book_without_entries(self):
        for machine in [writer(Book(AB)), reader(Book(AB))]:
            self.assertEqual(machine.outs("ab-"), ["ab-"])

    def test_errors(self):
        book = Book(Alphabet("ab"), ("x", "a", "b", "any"))
        for deed, name in [(lambda: writer(book, using="y"), "y"), (lambda: reader(book, taking=""), ""),
                           (lambda: writer(book, using=""), ""), (lambda: reader(book, taking="X"), "X")]:
            with self.assertRaises(UnknownName) as caught:
                deed()
            self.assertEqual(caught.exception.name, name)
        self.assertRaises(TypeError, writer, book, "x")
        self.assertRaises(TypeError, reader, book, "x")


if __name__ == "__main__":
    unittest.main()
