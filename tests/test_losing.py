"""Point 32: the greatest tables behind and ahead of a table."""

import itertools
import random
import unittest

from talepost.errors import Mixed
from talepost.letters import Alphabet
from talepost.losing import earlier, further, greatest_ahead, greatest_behind
from talepost.tables import Table

from helpers import AB, OTHER

ONE = Alphabet("x")


def every_table(alphabet):
    pairs = list(itertools.product(alphabet.signs, repeat=2))
    for kept in itertools.product([False, True], repeat=len(pairs)):
        yield Table(alphabet, [pair for pair, keep in zip(pairs, kept) if keep])


class LosingTest(unittest.TestCase):
    def test_all_tables_of_one_letter(self):
        tables = list(every_table(ONE))
        self.assertEqual(len(tables), 16)
        for known, whole in itertools.product(tables, repeat=2):
            behind, ahead = greatest_behind(known, whole), greatest_ahead(known, whole)
            self.assertTrue((known * behind).within(whole))
            self.assertTrue((ahead * known).within(whole))
            for table in tables:
                self.assertEqual((known * table).within(whole), table.within(behind))
                self.assertEqual((table * known).within(whole), table.within(ahead))
            self.assertEqual(further(known, whole), behind if any(known * x == whole for x in tables) else None)
            self.assertEqual(earlier(known, whole), ahead if any(x * known == whole for x in tables) else None)

    def test_random_tables(self):
        rng = random.Random(71)
        pairs = list(itertools.product("-ab", repeat=2))
        for _ in range(40):
            known, whole = [Table(AB, [pair for pair in pairs if rng.random() < 0.5]) for _ in range(2)]
            kept = [known.pairs(), whole.pairs()]
            behind, ahead = greatest_behind(known, whole), greatest_ahead(known, whole)
            for pair in pairs:
                one = Table(AB, [pair])
                self.assertEqual((known * one).within(whole), pair in behind)
                self.assertEqual((one * known).within(whole), pair in ahead)
            self.assertEqual(further(known, whole), behind if known * behind == whole else None)
            self.assertEqual(earlier(known, whole), ahead if ahead * known == whole else None)
            self.assertEqual([known.pairs(), whole.pairs()], kept)

    def test_a_product_can_be_taken_apart(self):
        rng = random.Random(72)
        pairs = list(itertools.product("-ab", repeat=2))
        for _ in range(60):
            first, last = [Table(AB, [pair for pair in pairs if rng.random() < 0.4]) for _ in range(2)]
            self.assertEqual(first * further(first, first * last), first * last)
            self.assertEqual(earlier(last, first * last) * last, first * last)

    def test_pairs_that_make_no_difference(self):
        first = Table(AB, [("-", "-"), ("a", "a")])
        self.assertEqual(str(greatest_behind(first, first)), "->- a>a b>-ab")
        self.assertEqual(str(greatest_ahead(first, first)), "->-b a>ab b>b")
        self.assertEqual(str(further(first, first)), "->- a>a b>-ab")
        self.assertEqual(str(earlier(first, first)), "->-b a>ab b>b")
        self.assertEqual(greatest_behind(Table.empty(AB), Table.empty(AB)), Table.full(AB))
        self.assertEqual(further(Table.empty(AB), Table.empty(AB)), Table.full(AB))
        self.assertEqual(earlier(Table.empty(AB), Table.empty(AB)), Table.full(AB))

    def test_no_table(self):
        nothing, all_pairs = Table.empty(AB), Table.full(AB)
        self.assertIsNone(further(nothing, all_pairs))
        self.assertIsNone(earlier(nothing, all_pairs))
        lost = Table.read(AB, "->- a>a b>a")
        self.assertIsNone(further(lost, Table.identity(AB)))
        self.assertIsNone(earlier(lost, Table.identity(AB)))
        self.assertEqual(str(further(lost, Table.read(AB, "->- a>b b>b"))), "->- a>b b>-ab")

    def test_mixed(self):
        for function in [greatest_behind, greatest_ahead, further, earlier]:
            self.assertRaises(Mixed, function, Table.identity(AB), Table.identity(OTHER))


if __name__ == "__main__":
    unittest.main()
