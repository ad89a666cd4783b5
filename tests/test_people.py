"""Points 33 and 34: people of four kinds."""

import random
import unittest

from talepost.errors import BadPerson, UnknownSign
from talepost.letters import Alphabet
from talepost.people import Doubter, Knower, KnowingDoubter, Person
from talepost.tables import Table

from helpers import AB, ABK

HEARS, SAYS = "-ba", ["b-b", "ab", "-"]
KINDS = {Person: [], Knower: ["b"], Doubter: [], KnowingDoubter: ["b"]}


class PersonTest(unittest.TestCase):
    def test_heard_and_said(self):
        person = Person(AB, HEARS, SAYS)
        self.assertEqual([person.heard(sign) for sign in "-ab"], ["-", "b", "a"])
        self.assertEqual([person.said(sign) for sign in "-ab"], ["-b", "-", "ab"])
        self.assertEqual(person.alphabet, AB)
        self.assertEqual(str(person.table), "->-b a>- b>ab")
        self.assertIsInstance(person.table, Table)
        self.assertEqual(person.table.alphabet, AB)

    def test_one_sign_may_be_heard_for_all(self):
        person = Person(ABK, "aaaa", ["-", "kab", "a", "b"])
        self.assertEqual([person.said(sign) for sign in "-abk"], ["abk"] * 4)

    def test_what_is_passed_is_copied(self):
        says = list(SAYS)
        person = Person(AB, HEARS, says)
        says[0] = "a"
        says.append("b")
        self.assertEqual(person.said("-"), "-b")
        self.assertEqual(says, ["a", "ab", "-", "b"])

    def test_knower(self):
        knower = Knower(AB, HEARS, SAYS, "bab")
        self.assertEqual(knower.known, "ab")
        self.assertEqual([knower.said(sign) for sign in "-ab"], ["-b", "a", "b"])
        self.assertEqual([knower.heard(sign) for sign in "-ab"], ["-", "b", "a"])
        self.assertEqual(str(knower.table), "->-b a>a b>b")
        self.assertEqual(Knower(AB, HEARS, SAYS, "").known, "")
        self.assertEqual(Knower(AB, HEARS, SAYS, "").table, Person(AB, HEARS, SAYS).table)
        self.assertEqual(Knower(AB, HEARS, SAYS, "ba-").table, Table.identity(AB))

    def test_doubter(self):
        doubter = Doubter(AB, HEARS, SAYS)
        self.assertEqual([doubter.said(sign) for sign in "-ab"], ["-b", "-a", "ab"])
        self.assertEqual([doubter.heard(sign) for sign in "-ab"], ["-", "b", "a"])
        self.assertEqual(str(doubter.table), "->-b a>-a b>ab")

    def test_knowing_doubter(self):
        both = KnowingDoubter(AB, HEARS, SAYS, "bb")
        self.assertEqual(both.known, "b")
        self.assertEqual([both.said(sign) for sign in "-ab"], ["-b", "-a", "b"])
        self.assertEqual([both.heard(sign) for sign in "-ab"], ["-", "b", "a"])
        self.assertEqual(str(both.table), "->-b a>-a b>b")
        self.assertIsInstance(both, Knower)
        self.assertIsInstance(both, Doubter)

    def test_random_people(self):
        rng = random.Random(81)
        for _ in range(100):
            hears = "".join(rng.choice("-ab") for _ in range(3))
            says = ["".join(rng.choice("-ab") for _ in range(rng.randint(1, 4))) for _ in range(3)]
            knows = "".join(rng.choice("-ab") for _ in range(rng.randint(0, 3)))
            plain = {(told, out) for told, heard in zip("-ab", hears) for out in says["-ab".index(heard)]}
            same = {(sign, sign) for sign in "-ab"}

            def known(pairs):
                return {pair for pair in pairs if pair[0] not in knows} | {(sign, sign) for sign in knows}
            people = [Person(AB, hears, says), Knower(AB, hears, says, knows), Doubter(AB, hears, says),
                      KnowingDoubter(AB, hears, says, knows)]
            for person, pairs in zip(people, [plain, known(plain), plain | same, known(plain | same)]):
                self.assertEqual(person.table.pairs(), sorted(pairs))
                for sign in "-ab":
                    self.assertEqual(person.said(sign), person.table[sign])
                    self.assertEqual(person.heard(sign), hears["-ab".index(sign)])

    def test_wrong_people(self):
        cases = [("", SAYS, "hears"), ("-a", SAYS, "hears"), ("-abb", SAYS, "hears"), ("-ax", SAYS, "hears"),
                 ("-ax", [], "hears"), (HEARS, [], "says"), (HEARS, ["a", "b"], "says"), (HEARS, SAYS + ["a"], "says"),
                 (HEARS, ["a", "", "b"], "says"), (HEARS, ["a", "ax", "b"], "says"), (HEARS, ["a", "b", "A"], "says")]
        for hears, says, part in cases:
            for kind, more in KINDS.items():
                with self.subTest(hears=hears, says=says, kind=kind), self.assertRaises(BadPerson) as caught:
                    kind(AB, hears, says, *more)
                self.assertEqual(caught.exception.part, part)
        for kind in [Knower, KnowingDoubter]:
            for knows in ["x", "abx", "?"]:
                with self.assertRaises(BadPerson) as caught:
                    kind(AB, HEARS, SAYS, knows)
                self.assertEqual(caught.exception.part, "knows")
            for hears, says, part in [("a", [], "hears"), (HEARS, [], "says")]:
                with self.assertRaises(BadPerson) as caught:
                    kind(AB, hears, says, "x")
                self.assertEqual(caught.exception.part, part)

    def test_unknown_signs(self):
        for kind, more in KINDS.items():
            person = kind(AB, HEARS, SAYS, *more)
            for sign in ["", "x", "ab", "b-", "A"]:
                for method in [person.heard, person.said]:
                    with self.assertRaises(UnknownSign) as caught:
                        method(sign)
                    self.assertEqual(caught.exception.sign, sign)

    def test_properties_are_read_only(self):
        person = KnowingDoubter(AB, HEARS, SAYS, "b")
        for name in ["table", "known"]:
            with self.assertRaises(AttributeError):
                setattr(person, name, None)

    def test_methods_stand_in_the_class(self):
        self.assertLessEqual({"heard", "said", "table"}, set(vars(Person)))
        self.assertLessEqual({"said", "known"}, set(vars(Knower)))
        self.assertIn("said", vars(Doubter))
        self.assertIn("said", vars(KnowingDoubter))
        self.assertEqual(KnowingDoubter.__bases__, (Knower, Doubter))

    def test_other_alphabets(self):
        person = Person(Alphabet("z", "z"), "z-", ["-z", "z"])
        self.assertEqual(str(person.table), "->z z>-z")


if __name__ == "__main__":
    unittest.main()
