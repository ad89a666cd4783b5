"""Points 29 to 31: tables of signs."""

import itertools
import random
import unittest

from talepost.errors import BadEntry, BadPair, Mixed, UnknownSign
from talepost.letters import Alphabet
from talepost.tables import Table

from helpers import AB, OTHER, all_texts


def random_table(rng):
    return Table(AB, [pair for pair in itertools.product("-ab", repeat=2) if rng.random() < 0.4])


class TableTest(unittest.TestCase):
    def setUp(self):
        self.table = Table(AB, [("b", "-"), ("a", "b"), ("a", "a"), ("b", "-")])

    def test_pairs(self):
        self.assertEqual(self.table.pairs(), [("a", "a"), ("a", "b"), ("b", "-")])
        self.assertEqual(len(self.table), 3)
        self.assertEqual(self.table.alphabet, AB)
        self.assertEqual(Table(AB, [("a", "a"), ("-", "b")]).pairs(), [("-", "b"), ("a", "a")])
        self.table.pairs().append(("b", "b"))
        self.assertEqual(len(self.table.pairs()), 3)

    def test_copies(self):
        listed = [("a", "b"), ("-", "-")]
        table = Table(AB, listed)
        listed.append(("b", "b"))
        self.assertEqual(table.pairs(), [("-", "-"), ("a", "b")])
        self.assertEqual(listed, [("a", "b"), ("-", "-"), ("b", "b")])

    def test_bad_pairs(self):
        for listed, index in [([("a", "c")], 0), ([("a", "b"), ("?", "a")], 1), ([("a", "b"), ("a", "")], 1),
                              ([("", "a"), ("x", "y")], 0), ([("a", "b"), ("ab", "a")], 1), ([("a", "-a")], 0)]:
            with self.assertRaises(BadPair) as caught:
                Table(AB, listed)
            self.assertEqual(caught.exception.index, index)

    def test_class_methods(self):
        self.assertEqual(Table.identity(AB).pairs(), [("-", "-"), ("a", "a"), ("b", "b")])
        self.assertEqual(Table.full(AB).pairs(), list(itertools.product("-ab", repeat=2)))
        self.assertEqual(Table.empty(AB).pairs(), [])

    def test_signs_that_come_out(self):
        self.assertEqual([self.table["-"], self.table["a"], self.table["b"]], ["", "ab", "-"])
        for sign in ["c", "", "ab", "-a", "A"]:
            with self.assertRaises(UnknownSign) as caught:
                self.table[sign]
            self.assertEqual(caught.exception.sign, sign)

    def test_in_and_bool(self):
        self.assertIs(("a", "b") in self.table, True)
        for pair in [("b", "a"), ("a", "-"), ("a", "x"), ("", "")]:
            self.assertIs(pair in self.table, False)
        self.assertIs(bool(self.table), True)
        self.assertIs(bool(Table.empty(AB)), False)
        self.assertRaises(TypeError, iter, self.table)
        self.assertRaises(TypeError, list, self.table)

    def test_total_and_exact(self):
        for table, total, exact in [(Table.identity(AB), True, True), (Table.full(AB), True, False),
                                    (Table.empty(AB), False, True), (self.table, False, False),
                                    (Table(AB, [("a", "b"), ("b", "b"), ("-", "b")]), True, True)]:
            self.assertIs(table.total, total)
            self.assertIs(table.exact, exact)
        for name in ["total", "exact"]:
            with self.assertRaises(AttributeError):
                setattr(self.table, name, True)

    def test_written_form(self):
        self.assertEqual(str(self.table), "->. a>ab b>-")
        self.assertEqual(str(Table.full(AB)), "->-ab a>-ab b>-ab")
        self.assertEqual(str(Table.empty(Alphabet("x"))), "->. x>.")
        rng = random.Random(51)
        for _ in range(100):
            table = random_table(rng)
            self.assertEqual(Table.read(AB, str(table)), table)

    def test_bad_entries(self):
        cases = {"": 0, " ": 0, "->.": 1, "->. a>.": 2, "->. a>. b>. ": 3, "->. a>. b>. c>.": 3, " ->. a>. b>.": 0,
                 "->.  a>. b>.": 1, "->. a>. b>.  ": 3, "->. b>. a>.": 1, "a>. ->. b>.": 0, "-> a>. b>.": 0,
                 "->. a>ba b>.": 1, "->. a>aa b>.": 1, "->. a>c b>.": 1, "->. a>a. b>.": 1, "->. a>.. b>.": 1,
                 "->. a>.a b>.": 1, "->. a=a b>.": 1, "->. aa b>.": 1, "->. a b>.": 1, "->. a>a b>x": 2, "->.\na>. b>.": 0,
                 "->- a>a b>b x>x y": 3, "x": 0, "->- a>?": 1, "->-,a>a,b>b": 0, "->-a": 1, "->a- a>a b>b": 0}
        for written, index in cases.items():
            with self.subTest(written=written), self.assertRaises(BadEntry) as caught:
                Table.read(AB, written)
            self.assertEqual(caught.exception.index, index)

    def test_operators(self):
        rng = random.Random(52)
        signs = "-ab"
        for _ in range(100):
            one, other = random_table(rng), random_table(rng)
            kept = [one.pairs(), other.pairs()]
            mine, yours = set(kept[0]), set(kept[1])
            self.assertEqual((one | other).pairs(), sorted(mine | yours))
            self.assertEqual((one & other).pairs(), sorted(mine & yours))
            self.assertEqual((~one).pairs(), sorted((out, told) for told, out in mine))
            self.assertEqual((one * other).pairs(), [(a, c) for a in signs for c in signs
                                                     if any((a, b) in mine and (b, c) in yours for b in signs)])
            self.assertIs(one.within(other), mine <= yours)
            self.assertEqual(one == other, mine == yours)
            self.assertEqual([one.pairs(), other.pairs()], kept)

    def test_machine(self):
        machine = self.table.machine()
        self.assertEqual(machine.outs("ab"), ["a-", "b-"])
        self.assertEqual(machine.outs("a-"), [])
        self.assertEqual(machine.outs(""), [""])
        rng = random.Random(53)
        for _ in range(20):
            table = random_table(rng)
            machine = table.machine()
            for text in all_texts(AB, 2):
                expected = ["".join(signs) for signs in itertools.product(*[table[sign] for sign in text])]
                self.assertEqual(machine.outs(text), expected)
        self.assertEqual(Table.empty(AB).machine().outs(""), [""])

    def test_mixed(self):
        mine, other = Table.identity(AB), Table.identity(OTHER)
        self.assertIs(mine == other, False)
        self.assertIs(mine == "->- a>a b>b", False)
        for deed in [lambda: mine * other, lambda: mine | other, lambda: mine & other, lambda: mine.within(other)]:
            self.assertRaises(Mixed, deed)

    def test_methods_stand_in_the_class(self):
        listed = """identity full empty read pairs within machine total exact __getitem__ __contains__ __len__ __bool__
                    __str__ __eq__ __mul__ __or__ __and__ __invert__ __init__""".split()
        self.assertLessEqual(set(listed), set(vars(Table)))


if __name__ == "__main__":
    unittest.main()
