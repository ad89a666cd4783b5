"""Points 44 to 47: round trips, entries that are used, short forms that are safe, and what must be struck."""

import itertools
import random
import unittest

from talepost.books import Book
from talepost.errors import BadForm, BadText, Conflict, Mixed, TakenShort, TooMany, UnknownName, UnknownPlace
from talepost.letters import Alphabet
from talepost.scanning import expand, read_steps, shorten
from talepost.stocks import Stock
from talepost.trips import first_clash, first_damage, first_take, first_use, least_strike, round_trip, strike

from helpers import AB, ABK, OTHER, all_texts, counting_stock, random_book, random_stock, shape, slow_scan

PLACES = ["any", "opening", "inner"]
EVERY = Stock.every(AB)
KM = Book(ABK, ("km", "abba", "k", "any"))
STRANGE = Book(OTHER, ("x", "ab", "b", "any"))
# Eight entries that write each pair of letters as another pair.
EIGHT = Book(AB, *[("n" + letter, long, short, place) for letter, (long, short, place) in zip("abcdefgh", [
    ("aa", "b-", "any"), ("ab", "ba", "any"), ("ba", "ab", "opening"), ("bb", "a-", "any"), ("ba", "--", "inner"),
    ("a-a", "aaa", "any"), ("b-b", "bbb", "any"), ("---", "-a-", "any")])])


def slow_trip(old, new, text):
    written = "".join(step[2] for step in slow_scan(old.entries(), text, "start", False))
    return "".join(step[2] for step in slow_scan(new.entries(), written, "start", True))


def uses(entries, text, name, reading):
    return name in [step[1] for step in slow_scan(entries, text, "start", reading)]


def random_form(rng, most):
    return "".join(rng.choice("-ab") for _ in range(rng.randint(1, most)))


class TripsTest(unittest.TestCase):
    def first_like(self, found, stock, fits, most=6):
        """Check that `found` is the first text of the stock that fits, among those of at most so many signs."""
        expected = next((text for text in all_texts(AB, most) if text in stock and fits(text)), None)
        if expected is not None or found is None:
            self.assertEqual(found, expected)
        else:
            self.assertGreater(len(found), most)
            self.assertTrue(found in stock and fits(found))

    def stocks(self, rng):
        return [EVERY, random_stock(rng), counting_stock(AB, rng.randint(2, 3))]


class RoundTripTest(TripsTest):
    def test_round_trip(self):
        self.assertEqual([round_trip(KM, KM, text) for text in ["", "abba", "k", "aabbab", "-k-"]],
                         ["", "abba", "abba", "aabbab", "-abba-"])
        self.assertEqual(round_trip(KM, Book(ABK), "babbab"), "bkb")
        self.assertEqual(round_trip(Book(ABK), KM, "babbakb"), "babbaabbab")
        rng = random.Random(41)
        for _ in range(20):
            old, new = random_book(rng), random_book(rng)
            for text in all_texts(AB, 4) + [random_form(rng, 60) for _ in range(10)]:
                self.assertEqual(round_trip(old, new, text), slow_trip(old, new, text))
                self.assertEqual(round_trip(old, new, text), expand(new, shorten(old, text)))

    def test_example(self):
        self.assertEqual(first_damage(KM, KM, Stock.every(ABK)), "k")
        # The two books damage some text although they damage none of this stock.
        self.assertIsNone(first_damage(KM, KM, shape("(J|a|b)*", ABK)))

    def test_random_books(self):
        rng = random.Random(42)
        whole = 0
        for _ in range(30):
            old = random_book(rng)
            for new in [old, random_book(rng)]:
                kept = [old.entries(), new.entries()]
                for stock in self.stocks(rng):
                    found = first_damage(old, new, stock)
                    self.first_like(found, stock, lambda text: slow_trip(old, new, text) != text)
                    whole += found is None and bool(stock)
                self.assertEqual([old.entries(), new.entries()], kept)
        self.assertGreater(whole, 5)

    def test_plain_damage(self):
        book = Book(AB, ("x", "aa", "-", "any"))
        self.assertEqual(first_damage(book, book, EVERY), "-")
        self.assertIsNone(first_damage(book, book, shape("L*")))
        self.assertEqual(first_damage(book, Book(AB), shape("L*")), "aa")
        self.assertIsNone(first_damage(book, Book(AB), shape("(ab?)?(b|J)*")))
        self.assertIsNone(first_damage(book, Book(AB), Stock.none(AB)))
        self.assertIsNone(first_damage(Book(AB), Book(AB), EVERY))

    def test_damage_far_behind(self):
        # Only the end of a text of 61 signs is long enough for the form.
        book = Book(AB, ("x", "bbbbbb", "b", "any"))
        stock = shape("a*bbbbbb") & counting_stock(AB, 59)
        self.assertEqual(first_damage(book, Book(AB), stock), "a" * 53 + "b" * 6)
        self.assertIsNone(first_damage(book, Book(AB), shape("a*bbbbb")))


class UseTest(TripsTest):
    def test_random_books(self):
        rng = random.Random(43)
        never = 0
        for _ in range(20):
            old, new = random_book(rng), random_book(rng)
            for stock in self.stocks(rng):
                for name in old.names():
                    self.first_like(first_use(old, name, stock), stock,
                                    lambda text: uses(old.entries(), text, name, False))
                for name in new.names():
                    found = first_take(old, new, name, stock)
                    never += found is None and bool(stock)
                    self.first_like(found, stock, lambda text: uses(new.entries(), shorten(old, text), name, True))
        self.assertGreater(never, 5)

    def test_plain_uses(self):
        book = Book(AB, ("x", "ab", "b", "opening"), ("y", "abab", "a", "inner"), ("z", "abab", "-", "opening"))
        self.assertEqual([first_use(book, name, EVERY) for name in "xyz"], ["ab", "aabab", "abab"])
        self.assertEqual([first_use(book, name, shape("J(a|b)*")) for name in "xyz"], ["-ab", "-aabab", "-abab"])
        self.assertIsNone(first_use(book, "x", shape("(ab)*(aabb)*") - shape("abS*")))
        self.assertIsNone(first_use(book, "x", Stock.none(AB)))
        self.assertEqual(first_use(Book(AB, ("x", "b", "a", "inner")), "x", EVERY), "ab")
        # A longer form stands in each text of the stock in which the entry could be used.
        hidden = Book(AB, ("x", "ab", "a", "any"), ("y", "abb", "b", "any"))
        self.assertIsNone(first_use(hidden, "x", shape("(abb)*")))
        self.assertEqual(first_use(hidden, "x", shape("(abb)*(ab)?")), "ab")

    def test_plain_takes(self):
        old = Book(AB, ("x", "aa", "-b", "any"))
        new = Book(AB, ("k", "bb", "b", "opening"), ("m", "a", "-b", "any"))
        self.assertEqual(first_take(old, new, "k", EVERY), "b")
        self.assertEqual(first_take(old, new, "m", EVERY), "-b")
        self.assertEqual(first_take(old, new, "m", shape("a*")), "aa")
        self.assertIsNone(first_take(old, new, "k", shape("a*")))
        self.assertIsNone(first_take(Book(AB), new, "m", shape("L*")))

    def test_unknown_names(self):
        old, new = Book(AB, ("x", "a", "b", "any")), Book(AB, ("y", "a", "b", "any"))
        for deed, name in [(lambda: first_use(old, "y", EVERY), "y"), (lambda: first_use(old, "", EVERY), ""),
                           (lambda: first_take(old, new, "x", EVERY), "x"), (lambda: first_use(old, "X", EVERY), "X"),
                           (lambda: first_take(old, new, "", Stock.none(AB)), "")]:
            with self.assertRaises(UnknownName) as caught:
                deed()
            self.assertEqual(caught.exception.name, name)
        self.assertEqual([first_use(old, "x", EVERY), first_take(old, new, "y", EVERY)], ["a", "a"])


class ClashTest(TripsTest):
    def test_random_books(self):
        rng = random.Random(44)
        safe = 0
        for _ in range(60):
            old, new = random_book(rng), random_book(rng)
            short, place = random_form(rng, 4), rng.choice(PLACES)
            further = [("+", random_form(rng, 4), short, place)]
            taken = [name for name, _, form, where in new.entries()
                     if form == short and (place == where or "any" in (place, where))]
            for stock in self.stocks(rng):
                if taken:
                    with self.assertRaises(TakenShort) as caught:
                        first_clash(old, new, short, place, stock)
                    self.assertEqual(caught.exception.name, min(taken))
                else:
                    found = first_clash(old, new, short, place, stock)
                    safe += found is None and bool(stock)
                    self.first_like(found, stock, lambda text: uses(new.entries() + further, shorten(old, text), "+", True))
        self.assertGreater(safe, 10)

    def test_plain_clashes(self):
        old = Book(AB, ("x", "aa", "b-", "any"))
        self.assertEqual(first_clash(old, old, "b", "any", EVERY), "b")
        self.assertEqual(first_clash(old, old, "b", "inner", shape("aaL*")), "aab")
        self.assertIsNone(first_clash(old, old, "b", "opening", shape("a+L*")))
        self.assertIsNone(first_clash(old, old, "b", "any", shape("a*")))
        self.assertIsNone(first_clash(old, old, "--", "any", shape("L*")))
        self.assertEqual(first_clash(old, old, "-", "inner", shape("L*J?")), "a-")
        # The same short form may stand where the places do not overlap.
        inner = Book(AB, ("x", "aa", "b", "inner"))
        self.assertEqual(first_clash(Book(AB), inner, "b", "opening", EVERY), "b")
        self.assertIsNone(first_clash(Book(AB), inner, "b", "opening", shape("a(a|b)*")))

    def test_eight_entries_and_conflicts(self):
        self.assertEqual(len(EIGHT), 8)
        self.assertRaises(TooMany, lambda: EIGHT + ("x", "a", "bab", "any"))
        self.assertEqual(first_clash(Book(AB), EIGHT, "bab", "any", EVERY), "bab")
        self.assertEqual(first_clash(Book(AB), EIGHT, "bab", "inner", shape("L*")), "bbab")
        self.assertEqual(first_clash(EIGHT, EIGHT, "bab", "inner", shape("L*")), "aaabb")
        self.assertIsNone(first_clash(EIGHT, EIGHT, "b-b-b-", "inner", shape("(ab)*")))
        # An entry with this long form would conflict with another one, but none is made.
        one = Book(AB, ("x", "ab", "b", "any"))
        self.assertRaises(Conflict, lambda: one + ("y", "ab", "a", "any"))
        self.assertEqual(first_clash(one, one, "a", "any", EVERY), "a")

    def test_the_long_form_makes_no_difference(self):
        rng = random.Random(45)
        for _ in range(20):
            old, new = random_book(rng), random_book(rng)
            short, place = random_form(rng, 3), rng.choice(PLACES)
            try:
                found = first_clash(old, new, short, place, EVERY)
            except TakenShort:
                continue
            for long in ["-", "a", "bbbbbb", "-a-b"]:
                try:
                    longer = new + ("zz", long, short, place)
                except Conflict:
                    continue
                self.assertEqual(first_take(old, longer, "zz", EVERY), found)

    def test_safe_short_forms_are_safe_together(self):
        rng = random.Random(46)
        checked = 0
        for _ in range(60):
            old, new, stock = random_book(rng), random_book(rng), random_stock(rng)
            later = new
            for letter in "xyz":
                entry = (letter, random_form(rng, 4), random_form(rng, 4), rng.choice(PLACES))
                try:
                    safe = first_clash(old, new, entry[2], entry[3], stock) is None
                    later = later + entry if safe else later
                except (TakenShort, Conflict, TooMany):
                    pass
            for text in stock.texts(6):
                short = shorten(old, text)
                self.assertEqual(list(read_steps(later, short)), list(read_steps(new, short)))
            checked += len(later) > len(new) + 1 and stock.how_many(6) > 10
        self.assertGreater(checked, 3)

    def test_errors_in_order(self):
        new = Book(AB, ("y", "aa", "b", "opening"), ("c", "ab", "b", "inner"), ("x", "ba", "bb", "any"))
        for form in ["", "a" * 7, "x", "a b"]:
            with self.assertRaises(BadForm) as caught:
                first_clash(new, new, form, "?", EVERY)
            self.assertEqual(caught.exception.form, form)
        for place in ["", "start", "Any", "letter"]:
            with self.assertRaises(UnknownPlace) as caught:
                first_clash(new, new, "b", place, EVERY)
            self.assertEqual(caught.exception.place, place)
        for short, place, name in [("b", "any", "c"), ("b", "inner", "c"), ("b", "opening", "y"), ("bb", "inner", "x")]:
            with self.assertRaises(TakenShort) as caught:
                first_clash(Book(AB), new, short, place, Stock.none(AB))
            self.assertEqual(caught.exception.name, name)
        self.assertIsNone(first_clash(new, Book(AB), "b", "any", Stock.none(AB)))
        self.assertEqual(first_clash(Book(AB), Book(AB), "a" * 6, "any", EVERY), "a" * 6)


class StrikeTest(TripsTest):
    def test_strike(self):
        book = Book(AB, ("x", "aa", "b", "any"), ("y", "ab", "a", "any"), ("z", "ba", "-", "any"))
        self.assertEqual(strike(book, ["y"]).names(), ["x", "z"])
        self.assertEqual(strike(book, ["q", "z", "x", "x", ""]), Book(AB, ("y", "ab", "a", "any")))
        self.assertEqual(strike(book, []), book)
        self.assertEqual(strike(book, ["x", "y", "z"]), Book(AB))
        self.assertEqual(book.names(), ["x", "y", "z"])

    def test_random_books(self):
        rng = random.Random(47)
        lengths = set()
        for _ in range(25):
            old = random_book(rng)
            new = rng.choice([old, strike(old, ["a"]), random_book(rng)])
            names = sorted(set(old.names()) | set(new.names()))
            for stock in self.stocks(rng) + [shape("(a|b)*"), Stock.none(AB)]:
                expected = None
                for many in range(len(names) + 1):
                    for struck in itertools.combinations(names, many):
                        if expected is None and first_damage(strike(old, struck), strike(new, struck), stock) is None:
                            expected = list(struck)
                self.assertEqual(least_strike(old, new, stock), expected)
                lengths.add(len(expected))
        self.assertGreaterEqual(lengths, {0, 1, 2, 3})

    def test_first_of_several_lists(self):
        old = Book(AB, ("a", "aa", "b", "any"), ("c", "--", "b-", "any"))
        self.assertEqual(least_strike(old, old, shape("a*")), [])
        self.assertEqual(least_strike(old, old, shape("(a|b)*")), ["a"])
        self.assertEqual(least_strike(old, old, EVERY), ["a", "c"])
        # Names that stand in one of the books only.
        self.assertEqual(least_strike(old, Book(AB), shape("a*")), ["a"])
        self.assertEqual(least_strike(Book(AB), old, shape("b*")), ["a"])
        one, other = Book(AB, ("x", "a", "b", "any")), Book(AB, ("d", "b", "a", "any"))
        self.assertEqual(least_strike(one, other, shape("a")), ["d", "x"])
        self.assertEqual(least_strike(one, strike(other, ["d"]), shape("a")), ["x"])
        self.assertEqual(least_strike(one, one, shape("b")), ["x"])
        both = Book(AB, ("y", "a", "b", "any"), ("m", "b", "a", "any"))
        self.assertEqual(least_strike(both, both, EVERY), [])
        self.assertEqual(least_strike(both, Book(AB), shape("ab")), ["m", "y"])

    def test_six_and_seven_names(self):
        old = Book(AB, *EIGHT.entries()[:4])
        six = strike(EIGHT, ["na", "nh"])
        self.assertEqual(len(set(old.names() + strike(six, ["ng"]).names())), 6)
        found = least_strike(old, strike(six, ["ng"]), EVERY)
        self.assertIsNone(first_damage(strike(old, found), strike(strike(six, ["ng"]), found), EVERY))
        for books in [(old, six), (six, old), (strike(EIGHT, ["nh"]), Book(AB)), (Book(AB), EIGHT)]:
            with self.assertRaises(TooMany) as caught:
                least_strike(*books, Stock.none(AB))
            self.assertEqual(caught.exception.most, 6)
        self.assertEqual(least_strike(six, six, Stock.none(AB)), [])


class MixedTest(unittest.TestCase):
    def test_mixed(self):
        book, other, stock = Book(AB, ("x", "ab", "b", "any")), STRANGE, Stock.every(OTHER)
        for books in [(book, other), (other, book)]:
            self.assertRaises(Mixed, round_trip, *books, "?")
            self.assertRaises(Mixed, first_damage, *books, EVERY)
            self.assertRaises(Mixed, first_take, *books, "?", EVERY)
            self.assertRaises(Mixed, first_clash, *books, "?", "?", EVERY)
            self.assertRaises(Mixed, least_strike, *books, EVERY)
        self.assertRaises(Mixed, first_damage, book, book, stock)
        self.assertRaises(Mixed, first_use, book, "?", stock)
        self.assertRaises(Mixed, first_take, book, book, "?", stock)
        self.assertRaises(Mixed, first_clash, book, book, "?", "?", stock)
        self.assertRaises(Mixed, least_strike, EIGHT, EIGHT, stock)

    def test_bad_texts(self):
        for text in ["x", "ab?", "A"]:
            with self.assertRaises(BadText) as caught:
                round_trip(Book(AB), Book(AB), text)
            self.assertEqual(caught.exception.text, text)

    def test_other_alphabets(self):
        four = Alphabet("wxyz", "y")
        book = Book(four, ("q", "wxyz", "z", "opening"))
        self.assertEqual(first_damage(book, book, Stock.every(four)), "z")
        self.assertEqual(first_damage(book, book, Stock.shaped(four, "w+S*")), "w-z")
        self.assertEqual(first_use(book, "q", Stock.every(four)), "wxyz")
        self.assertEqual(first_clash(book, book, "zz", "inner", Stock.shaped(four, "wx*yz*")), "wyzz")


if __name__ == "__main__":
    unittest.main()
