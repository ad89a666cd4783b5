"""Point 37: the tables of all rows of a cast."""

import itertools
import random
import unittest

from talepost.casts import Cast
from talepost.errors import Mixed, TooMany, UnknownLetter
from talepost.lots import MOST_TABLES, Lot
from talepost.people import Doubter, Person
from talepost.tables import Table

from helpers import AB, ABK, OTHER, all_texts, by_order, said

TURN = Person(AB, "ab-", ["-", "a", "b"])
SWAP = Person(AB, "-ba", ["-", "a", "b"])
LOSE = Person(AB, "-aa", ["-", "a", "b"])


def random_person(rng, alphabet):
    signs = alphabet.signs
    many = len(signs)
    kind = rng.choice([Person, Doubter])
    return kind(alphabet, "".join(rng.choice(signs) for _ in range(many)),
                ["".join(rng.choice(signs) for _ in range(rng.randint(1, 2))) for _ in range(many)])


def rows_of(letters, most):
    return ["".join(row) for length in range(most + 1) for row in itertools.product(letters, repeat=length)]


class LotTest(unittest.TestCase):
    def test_names_and_tables(self):
        lot = Lot(Cast(AB, A=TURN, B=SWAP))
        self.assertEqual(lot.names(), ["", "A", "B", "AA", "AB", "BA"])
        self.assertEqual(len(lot), 6)
        cast = Cast(AB, A=TURN, B=SWAP)
        self.assertEqual(list(lot.walk()), [(name, cast.through(name)) for name in lot.names()])
        self.assertEqual(lot.alphabet, AB)
        self.assertEqual([lot.least("AAA"), lot.least("AAB"), lot.least("BB"), lot.least("")], ["", "BA", "", ""])

    def test_empty_cast(self):
        lot = Lot(Cast(AB))
        self.assertEqual([lot.names(), len(lot), lot.least(""), lot.behind("", "")], [[""], 1, "", ""])
        self.assertEqual(lot.union(), Table.identity(AB))
        self.assertEqual(lot.machine().outs("ab"), ["ab"])
        self.assertRaises(UnknownLetter, lot.least, "A")

    def test_random_casts(self):
        rng = random.Random(91)
        for _ in range(12):
            cast = Cast(AB, **{letter: random_person(rng, AB) for letter in "AB"})
            lot = Lot(cast, most=400)
            first = {}
            for row in rows_of("AB", 7):
                first.setdefault(str(cast.through(row)), row)
            names = [name for name in lot.names() if len(name) <= 7]
            self.assertEqual(names, sorted(first.values(), key=by_order))
            for name, table in lot.walk():
                self.assertEqual(table, cast.through(name))
                self.assertEqual(lot.name_of(table), name)
                self.assertIs(table in lot, True)
            self.assertEqual([name for name, _ in lot.walk()], lot.names())
            # No row has a table that is not in the lot.
            for name, letter in itertools.product(lot.names(), "AB"):
                self.assertIn(cast.through(name + letter), lot)
            for row in rows_of("AB", 5):
                self.assertEqual(lot.least(row), first[str(cast.through(row))])
            union = sorted({pair for _, table in lot.walk() for pair in table.pairs()})
            self.assertEqual(lot.union().pairs(), union)

    def test_behind(self):
        rng = random.Random(92)
        for _ in range(4):
            cast = Cast(AB, **{letter: random_person(rng, AB) for letter in "AC"})
            lot = Lot(cast, most=400)
            for row, other in itertools.product(rows_of("AC", 2), rows_of("AC", 3)):
                fitting = [behind for behind in rows_of("AC", 5) if cast.through(row + behind) == cast.through(other)]
                found = lot.behind(row, other)
                if fitting:
                    self.assertEqual(found, fitting[0])
                elif found is not None:
                    self.assertEqual(cast.through(row + found), cast.through(other))
                    self.assertGreater(len(found), 5)

    def test_behind_without_such_a_row(self):
        lot = Lot(Cast(AB, A=TURN, B=LOSE))
        self.assertIsNone(lot.behind("B", ""))
        self.assertEqual(lot.behind("A", ""), "AA")
        self.assertEqual(lot.behind("", "AA"), "AA")
        self.assertEqual(lot.behind("BA", "BA"), "")

    def test_unknown_letters(self):
        lot = Lot(Cast(AB, A=TURN, B=LOSE))
        cases = [(("ABx", "Ay"), "x", 2), (("AB", "Ay"), "y", 1), (("C", ""), "C", 0), (("", "C"), "C", 0)]
        for rows, letter, place in cases:
            with self.assertRaises(UnknownLetter) as caught:
                lot.behind(*rows)
            self.assertEqual([caught.exception.letter, caught.exception.place], [letter, place])
        with self.assertRaises(UnknownLetter) as caught:
            lot.least("ABBAC")
        self.assertEqual([caught.exception.letter, caught.exception.place], ["C", 4])

    def test_most(self):
        cast = Cast(AB, A=TURN, B=SWAP)
        self.assertEqual(len(Lot(cast, most=6)), 6)
        self.assertEqual(len(Lot(cast, most=7)), 6)
        for most in [5, 1, 0, -1, -40]:
            with self.assertRaises(TooMany) as caught:
                Lot(cast, most=most)
            self.assertEqual(caught.exception.most, most)
        self.assertEqual(len(Lot(Cast(AB), most=1)), 1)
        self.assertRaises(TooMany, Lot, Cast(AB), most=0)

    def test_most_without_a_number(self):
        self.assertEqual(MOST_TABLES, 150)
        cast = Cast(ABK, A=Person(ABK, "abk-", ["-", "a", "b", "k"]), B=Person(ABK, "a-bk", ["-", "a", "b", "k"]),
                    C=Person(ABK, "--bk", ["-", "a", "b", "k"]))
        with self.assertRaises(TooMany) as caught:
            Lot(cast)
        self.assertEqual(caught.exception.most, 150)
        # All functions from four signs to four signs.
        self.assertEqual(len(Lot(cast, most=256)), 256)
        self.assertEqual(len(Lot(cast, most=400)), 256)
        self.assertRaises(TooMany, Lot, cast, most=255)

    def test_tables_of_no_row(self):
        lot = Lot(Cast(AB, A=TURN))
        for table in [Table.full(AB), Table.empty(AB), LOSE.table]:
            self.assertIsNone(lot.name_of(table))
            self.assertIs(table in lot, False)
        self.assertIs(Table.identity(AB) in lot, True)
        self.assertIs(Table.identity(OTHER) in lot, False)

    def test_union_and_machine(self):
        cast = Cast(AB, A=TURN, B=LOSE)
        lot = Lot(cast)
        outs = said(lot.machine(), 3, 3)
        for text in all_texts(AB, 3):
            expected = set()
            for _, table in lot.walk():
                expected |= {"".join(out) for out in itertools.product(*[table[sign] for sign in text])}
            self.assertEqual(outs[text], expected)
        # All signs go through the same row.
        turning = Lot(Cast(AB, A=TURN)).machine()
        self.assertEqual(turning.outs("-ab"), ["-ab", "ab-", "b-a"])

    def test_later_changes_of_the_cast(self):
        cast = Cast(AB, A=TURN, B=SWAP)
        lot = Lot(cast)
        before = list(lot.walk())
        cast.leave("A")
        cast["B"] = LOSE
        cast["C"] = LOSE
        self.assertEqual(list(lot.walk()), before)
        self.assertEqual(lot.least("AAA"), "")
        self.assertEqual(lot.behind("A", ""), "AA")
        self.assertRaises(UnknownLetter, lot.least, "C")
        self.assertEqual(cast.members(), ["B", "C"])

    def test_returned_lists_are_new(self):
        lot = Lot(Cast(AB, A=TURN))
        lot.names().append("X")
        self.assertEqual(lot.names(), ["", "A", "AA"])

    def test_mixed(self):
        lot = Lot(Cast(AB, A=TURN))
        self.assertRaises(Mixed, lot.name_of, Table.identity(OTHER))

    def test_methods_stand_in_the_class(self):
        listed = "names walk name_of least behind union machine __len__ __contains__ __init__".split()
        self.assertLessEqual(set(listed), set(vars(Lot)))


if __name__ == "__main__":
    unittest.main()
