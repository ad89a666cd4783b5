"""Point 38: echoes, ranks and rings."""

import itertools
import random
import unittest

from talepost.casts import Cast
from talepost.echoes import echo, ranks, ring
from talepost.errors import BadText, Mixed
from talepost.letters import Alphabet
from talepost.lots import Lot
from talepost.people import Doubter, Person
from talepost.tables import Table

from helpers import AB, OTHER, all_texts, by_order

FIVE = Alphabet("abcd")


def random_table(rng):
    return Table(AB, [pair for pair in itertools.product("-ab", repeat=2) if rng.random() < 0.6])


def rising_person(rng, alphabet, chance):
    """A doubter who mostly says greater signs only."""
    signs = alphabet.signs
    says = ["".join(other for other in signs if (other >= sign) != (rng.random() < chance)) or sign for sign in signs]
    return Doubter(alphabet, signs, says)


def rows_of(letters, most):
    return ["".join(row) for length in range(most + 1) for row in itertools.product(letters, repeat=length)]


class EchoTest(unittest.TestCase):
    def test_random_tables(self):
        rng = random.Random(61)
        for _ in range(60):
            there, back = random_table(rng), random_table(rng)
            kept = [there.pairs(), back.pairs()]
            for text in all_texts(AB, 4):
                outs = ["".join(out) for out in itertools.product(*[there[sign] for sign in text])]
                coming = [out for out in outs if out != text and all((a, b) in back for a, b in zip(out, text))]
                self.assertEqual(echo(there, back, text), min(coming, key=by_order, default=None))
            self.assertEqual([there.pairs(), back.pairs()], kept)

    def test_plain_cases(self):
        full, same = Table.full(AB), Table.identity(AB)
        self.assertIsNone(echo(full, full, ""))
        self.assertEqual(echo(full, full, "-"), "a")
        self.assertEqual(echo(full, full, "a"), "-")
        self.assertEqual(echo(full, full, "---"), "--a")
        self.assertIsNone(echo(same, full, "ab"))
        self.assertIsNone(echo(full, same, "ab"))
        self.assertIsNone(echo(full, Table.empty(AB), "ab"))

    def test_a_long_search(self):
        # Sixty signs may come out as two signs each; only the last choice differs from the text.
        there = Table(AB, [("-", "-"), ("-", "a"), ("a", "a"), ("b", "b")])
        self.assertEqual(echo(there, Table.full(AB), "-" * 60), "-" * 59 + "a")
        self.assertEqual(echo(there, Table.full(AB), "-" * 30 + "b" * 30), "-" * 29 + "a" + "b" * 30)
        self.assertIsNone(echo(there, Table.identity(AB), "-" * 60))
        self.assertIsNone(echo(there, Table.full(AB), "ab" * 30))
        self.assertIsNone(echo(Table.full(AB), Table(AB, [("-", "-"), ("a", "-")]), "-" * 59 + "b"))
        self.assertEqual(echo(Table.full(AB), Table.full(AB), "b" * 60), "-" * 60)

    def test_errors(self):
        with self.assertRaises(BadText) as caught:
            echo(Table.full(AB), Table.full(AB), "abx")
        self.assertEqual(caught.exception.text, "abx")
        self.assertRaises(Mixed, echo, Table.full(AB), Table.full(OTHER), "x")


class RankTest(unittest.TestCase):
    def is_ranked(self, cast, numbers):
        rank = dict(zip(cast.alphabet.signs, numbers))
        return all(told == out or rank[out] > rank[told] for letter in cast.members() for told, out in cast[letter].pairs())

    def test_random_casts(self):
        rng = random.Random(62)
        found = 0
        for _ in range(300):
            cast = Cast(AB, A=rising_person(rng, AB, 0.2), B=rising_person(rng, AB, 0.1))
            fitting = [numbers for numbers in itertools.product(range(4), repeat=3) if self.is_ranked(cast, numbers)]
            numbers = ranks(cast)
            if fitting:
                found += 1
                self.assertEqual(numbers, [min(each[at] for each in fitting) for at in range(3)])
                self.assertIsNone(ring(cast))
                self.check_without_echo(cast)
            else:
                self.assertIsNone(numbers)
                self.check_ring(cast)
        self.assertTrue(50 < found < 250)

    def check_without_echo(self, cast):
        tables = [table for _, table in Lot(cast, most=400).walk()]
        for there, back in itertools.product(tables, repeat=2):
            for text in ["-", "ab", "b-a"]:
                self.assertIsNone(echo(there, back, text))

    def check_ring(self, cast):
        signs = cast.alphabet.signs
        # Between three signs no least row has more than three letters.
        least = {}
        for row in rows_of(cast.members(), 3):
            for pair in cast.through(row).pairs():
                least.setdefault(pair, row)
        pairs = [(a, b) for a, b in itertools.product(signs, repeat=2) if a != b and (a, b) in least and (b, a) in least]
        sent, got = pairs[0]
        self.assertEqual(ring(cast), (sent, got, least[(sent, got)], least[(got, sent)]))

    def test_least_rows_among_several_signs(self):
        # From "-" the person A says a or b. Only A says "-" for b, and only B says "-" for a: so AA is the least row.
        cast = Cast(AB, A=Person(AB, "-ab", ["ab", "a", "-"]), B=Person(AB, "-ab", ["-", "-", "b"]))
        self.assertEqual(ring(cast), ("-", "a", "A", "B"))
        cast = Cast(FIVE, A=Person(FIVE, "-abcd", ["ab", "a", "c", "c", "d"]), B=Person(FIVE, "-abcd", ["-", "c", "b", "-", "d"]))
        self.assertEqual(ring(cast), ("-", "a", "A", "BB"))
        self.assertEqual(str(cast.through("AA")), "->ac a>a b>c c>c d>d")
        # For a, the person A says b or c; both say "-" then, B for b and A for c: so the later sign has the lesser row.
        cast = Cast(FIVE, A=Person(FIVE, "-abcd", ["ab", "bc", "b", "-", "d"]), B=Person(FIVE, "-abcd", list("-a-cd")))
        self.assertEqual(ring(cast), ("-", "a", "A", "AA"))

    def test_five_signs(self):
        rng = random.Random(63)
        for _ in range(60):
            cast = Cast(FIVE, A=rising_person(rng, FIVE, 0.08), C=rising_person(rng, FIVE, 0.04))
            numbers = ranks(cast)
            if numbers is None:
                least = {}
                for row in rows_of(cast.members(), 5):
                    for pair in cast.through(row).pairs():
                        least.setdefault(pair, row)
                pairs = [(a, b) for a, b in itertools.product(FIVE.signs, repeat=2)
                         if a != b and (a, b) in least and (b, a) in least]
                sent, got = pairs[0]
                self.assertEqual(ring(cast), (sent, got, least[(sent, got)], least[(got, sent)]))
            else:
                self.assertTrue(self.is_ranked(cast, numbers))
                self.assertIsNone(ring(cast))

    def test_plain_cases(self):
        self.assertEqual([ranks(Cast(AB)), ring(Cast(AB))], [[0, 0, 0], None])
        falling = Cast(AB, A=Doubter(AB, "-ab", ["-", "-", "a"]))
        self.assertEqual(ranks(falling), [2, 1, 0])
        self.assertEqual(ranks(Cast(AB, A=Person(AB, "-aa", ["-", "-", "a"]))), [1, 0, 0])
        self.assertEqual(ranks(Cast(FIVE, Q=Person(FIVE, "-abcd", ["bc", "d", "b", "d", "d"]))), [0, 0, 1, 1, 2])
        turning = Cast(AB, T=Person(AB, "ab-", ["-", "a", "b"]))
        self.assertIsNone(ranks(turning))
        self.assertEqual(ring(turning), ("-", "a", "T", "TT"))

    def test_a_ring_through_several_people(self):
        people = {letter: Person(FIVE, "-abcd", ["-", "a", "b", "c", "d"][:at] + [FIVE.signs[(at + 1) % 5]]
                                 + ["-", "a", "b", "c", "d"][at + 1:]) for at, letter in enumerate("EDCBA")}
        cast = Cast(FIVE, **people)
        self.assertIsNone(ranks(cast))
        self.assertEqual(ring(cast), ("-", "a", "E", "DCBA"))
        cast.leave("C")
        self.assertEqual(ranks(cast), [2, 3, 4, 0, 1])
        self.assertIsNone(ring(cast))

    def test_a_cast_with_too_many_tables(self):
        people = {"A": Person(FIVE, "abcd-", list("-abcd")), "B": Person(FIVE, "a-bcd", list("-abcd")),
                  "C": Doubter(FIVE, "--bcd", list("-abcd"))}
        cast = Cast(FIVE, **people)
        self.assertIsNone(ranks(cast))
        self.assertEqual(ring(cast), ("-", "a", "A", "B"))
        rising = Cast(FIVE, **{letter: Doubter(FIVE, "abcdd"[:at] + "-abcd"[at:], list("-abcd"))
                               for at, letter in enumerate("ABCDEF")})
        self.assertEqual(ranks(rising), [0, 1, 2, 3, 4])


if __name__ == "__main__":
    unittest.main()
