"""Points 35 and 36: casts and rows."""

import itertools
import unittest

from talepost.casts import Cast
from talepost.errors import BadLetter, Mixed, TooMany, UnknownLetter
from talepost.people import Doubter, Knower, Person
from talepost.tables import Table

from helpers import AB, OTHER

SHIFT = Person(AB, "ab-", ["-", "a", "b"])
LOSE = Person(AB, "-aa", ["-", "a", "b"])
DOUBT = Doubter(AB, "-ba", ["-", "a", "b"])
STRANGE = Person(OTHER, "-ab", ["-", "a", "b"])
NO_LETTERS = ["", "a", "AB", "?", "1", "-", "[", "@"]


class CastTest(unittest.TestCase):
    def setUp(self):
        self.cast = Cast(AB, B=LOSE, A=SHIFT)

    def full_cast(self):
        return Cast(AB, **{letter: SHIFT for letter in "HGFEDCBA"})

    def test_tables_under_letters(self):
        self.assertEqual(self.cast["A"], SHIFT.table)
        self.assertEqual(self.cast["B"], LOSE.table)
        self.assertEqual(self.cast.members(), ["A", "B"])
        self.assertEqual(len(self.cast), 2)
        self.assertEqual(self.cast.alphabet, AB)
        self.cast.members().append("C")
        self.assertEqual(self.cast.members(), ["A", "B"])
        self.assertRaises(TypeError, iter, self.cast)

    def test_put_and_leave(self):
        self.assertIsNone(self.cast.put("Z", DOUBT))
        self.cast["C"] = LOSE
        self.assertEqual(self.cast.members(), ["A", "B", "C", "Z"])
        self.assertEqual(self.cast["Z"], DOUBT.table)
        self.cast["A"] = LOSE
        self.cast.put("B", SHIFT)
        self.assertEqual([self.cast["A"], self.cast["B"]], [LOSE.table, SHIFT.table])
        self.assertEqual(len(self.cast), 4)
        self.assertIsNone(self.cast.leave("A"))
        self.assertEqual(self.cast.members(), ["B", "C", "Z"])

    def test_bad_letters(self):
        for letter in NO_LETTERS:
            with self.assertRaises(BadLetter) as caught:
                self.cast.put(letter, SHIFT)
            self.assertEqual(caught.exception.letter, letter)
            with self.assertRaises(BadLetter):
                self.cast[letter] = SHIFT
        self.assertEqual(self.cast.members(), ["A", "B"])

    def test_the_ninth_person(self):
        cast = self.full_cast()
        self.assertEqual(len(cast), 8)
        for deed in [lambda: cast.put("I", LOSE), lambda: cast.put("Z", LOSE)]:
            with self.assertRaises(TooMany) as caught:
                deed()
            self.assertEqual(caught.exception.most, 8)
        with self.assertRaises(TooMany):
            cast["J"] = LOSE
        self.assertRaises(BadLetter, cast.put, "i", LOSE)
        self.assertEqual(cast.members(), list("ABCDEFGH"))
        cast.put("H", LOSE)
        cast["A"] = LOSE
        self.assertEqual([cast["A"], cast["H"]], [LOSE.table] * 2)
        cast.leave("B")
        cast.put("I", LOSE)
        self.assertEqual(cast.members(), list("ACDEFGHI"))

    def test_errors_when_a_cast_is_made(self):
        with self.assertRaises(BadLetter) as caught:
            Cast(AB, A=SHIFT, a=SHIFT, BB=SHIFT)
        self.assertEqual(caught.exception.letter, "BB")
        many = {letter: SHIFT for letter in "ABCDEFGHI"}
        self.assertRaises(TooMany, Cast, AB, **many)
        # In ascending order "AA" comes before the ninth letter, and "Zz" behind it.
        with self.assertRaises(BadLetter) as caught:
            Cast(AB, AA=SHIFT, **many)
        self.assertEqual(caught.exception.letter, "AA")
        self.assertRaises(TooMany, Cast, AB, Zz=SHIFT, **many)

    def test_empty_cast(self):
        cast = Cast(AB)
        self.assertEqual([len(cast), cast.members()], [0, []])
        self.assertEqual(cast.through(""), Table.identity(AB))
        self.assertRaises(UnknownLetter, cast.through, "A")

    def test_unknown_letters(self):
        for letter in NO_LETTERS + ["C"]:
            for deed in [self.cast.leave, lambda each: self.cast[each]]:
                with self.assertRaises(UnknownLetter) as caught:
                    deed(letter)
                self.assertEqual([caught.exception.letter, caught.exception.place], [letter, 0])
            self.assertIs(letter in self.cast, False)
        self.assertIs("A" in self.cast, True)

    def test_through(self):
        self.assertEqual(self.cast.through(""), Table.identity(AB))
        for length in range(1, 5):
            for row in itertools.product("AB", repeat=length):
                expected = self.cast[row[0]]
                for letter in row[1:]:
                    expected = expected * self.cast[letter]
                self.assertEqual(self.cast.through("".join(row)), expected)
        # The first letter is the station that the text reaches first.
        self.assertEqual(str(self.cast.through("AB")), "->a a>a b>-")
        self.assertEqual(str(self.cast.through("BA")), "->a a>b b>b")

    def test_unknown_letters_of_a_row(self):
        for row, letter, place in [("C", "C", 0), ("ABC", "C", 2), ("AaC", "a", 1), ("B?", "?", 1), ("A A", " ", 1)]:
            with self.assertRaises(UnknownLetter) as caught:
                self.cast.through(row)
            self.assertEqual([caught.exception.letter, caught.exception.place], [letter, place])

    def test_people_of_all_kinds(self):
        cast = Cast(AB, A=Knower(AB, "ab-", ["-", "a", "b"], "b"), D=DOUBT)
        self.assertEqual([str(cast["A"]), str(cast["D"])], ["->a a>b b>b", "->- a>ab b>ab"])

    def test_mixed(self):
        self.assertRaises(Mixed, Cast, AB, A=SHIFT, B=STRANGE)
        self.assertRaises(Mixed, Cast, AB, a=SHIFT, B=STRANGE)
        self.assertRaises(Mixed, Cast, OTHER, A=SHIFT)
        self.assertRaises(Mixed, self.cast.put, "C", STRANGE)
        self.assertRaises(Mixed, self.cast.put, "c", STRANGE)
        self.assertRaises(Mixed, self.full_cast().put, "I", STRANGE)
        with self.assertRaises(Mixed):
            self.cast["c"] = STRANGE
        self.assertEqual(self.cast.members(), ["A", "B"])

    def test_passed_people_stay(self):
        people = {"A": SHIFT, "B": LOSE}
        cast = Cast(AB, **people)
        people["C"] = DOUBT
        cast.leave("A")
        self.assertEqual([cast.members(), sorted(people)], [["B"], ["A", "B", "C"]])

    def test_methods_stand_in_the_class(self):
        listed = """put leave members through __getitem__ __setitem__ __contains__ __len__ __init__""".split()
        self.assertLessEqual(set(listed), set(vars(Cast)))


if __name__ == "__main__":
    unittest.main()
