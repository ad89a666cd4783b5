"""Point 65: stations."""

import random
import unittest

from talepost.errors import BadCount, BadText, Mixed, TooMany, Unbounded
from talepost.machines import Machine
from talepost.menus import Menu
from talepost.people import Knower, Person
from talepost.rules import Rule
from talepost.stations import Fixed, Hearer, Hidden, Plain, Station

from helpers import AB, ABK, OTHER, all_texts, by_order, pairs, random_bounded, random_machine, random_person, said

ONE = Machine.identity(AB)
# It says a, aa and so on for each text.
ENDLESS = Machine(AB, [[(sign, "", 0) for sign in AB.signs] + [("", "a", 1)], [("", "a", 1)]], [False, True])
# It can write for ever only where no walk leads to a good place, or where no walk leads at all.
BOUNDED = [Machine(AB, [[("a", "b", 0), ("", "a", 1)], [("", "a", 1)]], [True, False]),
           Machine(AB, [[("a", "b", 0)], [("", "a", 1)]], [True, True]),
           Machine(AB, [[("a", "b", 0), ("", "", 0)]], [True]),
           Machine(AB, [[("a", "", 0), ("", "", 1)], [("", "", 0), ("a", "bb"[:1], 1)]], [True, True])]


class StationTest(unittest.TestCase):
    def test_kinds_and_classes(self):
        stations = [Plain(AB), Fixed(ONE), Hearer(Person(AB, "-ab", ["-", "a", "b"])), Hidden([ONE])]
        self.assertEqual([station.KIND for station in stations], ["plain", "fixed", "person", "hidden"])
        for station in stations:
            self.assertEqual(type(station).__bases__, (Station,))
            self.assertLessEqual({"KIND", "machine", "outs"}, set(vars(type(station))))
            self.assertEqual(station.alphabet, AB)
        self.assertEqual(Station(AB).alphabet, AB)
        self.assertEqual([Plain.KIND, Fixed.KIND, Hearer.KIND, Hidden.KIND], ["plain", "fixed", "person", "hidden"])

    def test_plain(self):
        station = Plain(AB)
        for text in all_texts(AB, 3):
            self.assertEqual([station.outs(text), station.machine().outs(text)], [[text], [text]])

    def test_fixed(self):
        rng = random.Random(65)
        for _ in range(60):
            machine = random_bounded(rng)
            station = Fixed(machine)
            for text in all_texts(AB, 2):
                self.assertEqual(station.outs(text), machine.outs(text))
                self.assertEqual(station.machine().outs(text), machine.outs(text))
        self.assertEqual(Fixed(Rule.read(AB, "once all").machine()).outs("aab"), ["ab"])

    def test_hearer(self):
        rng = random.Random(66)
        for _ in range(30):
            person = random_person(rng)
            station = Hearer(person)
            self.assertIs(station.person, person)
            for text in all_texts(AB, 2):
                expected = [""]
                for sign in text:
                    expected = [out + more for out in expected for more in person.said(sign)]
                self.assertEqual(station.outs(text), sorted(expected))
                self.assertEqual(station.machine().outs(text), sorted(expected))
        knower = Hearer(Knower(AB, "-ba", ["-", "ab", "ab"], "a"))
        self.assertEqual(knower.outs("ab"), ["aa", "ab"])

    def test_hidden(self):
        rng = random.Random(67)
        for _ in range(60):
            machines = [random_bounded(rng) for _ in range(rng.randint(1, 4))]
            station = Hidden(machines)
            for text in all_texts(AB, 2):
                expected = sorted({out for machine in machines for out in machine.outs(text)}, key=by_order)
                self.assertEqual(station.outs(text), expected)
                self.assertEqual(station.machine().outs(text), expected)
        menu = Menu.made(AB, "drop vowels", "once all", "add a")
        self.assertEqual(Hidden(menu.machines()).outs("abb"), ["ab", "bb", "abb", "abba"])

    def test_hidden_has_at_most_60_machines(self):
        self.assertEqual(Hidden([ONE] * 60).outs("a"), ["a"])
        with self.assertRaises(TooMany) as caught:
            Hidden([ONE] * 61)
        self.assertEqual(caught.exception.most, 60)
        with self.assertRaises(BadCount) as caught:
            Hidden([])
        self.assertEqual(caught.exception.count, 0)

    def test_unbounded(self):
        with self.assertRaises(Unbounded) as caught:
            Fixed(ENDLESS)
        self.assertEqual(caught.exception.index, 0)
        for at in [0, 1, 5, 59]:
            for rest in [[ONE] * (59 - at), [ENDLESS] * (59 - at)]:
                with self.assertRaises(Unbounded) as caught:
                    Hidden([ONE] * at + [ENDLESS] + rest)
                self.assertEqual(caught.exception.index, at)
        for machine in BOUNDED:
            self.assertEqual(Fixed(machine).outs("a"), machine.outs("a"))
            self.assertEqual(Hidden([ONE, machine]).outs("b"), ["b"])

    def test_random_machines_that_are_bounded_or_not(self):
        rng = random.Random(68)
        kinds = set()
        for _ in range(400):
            machine = random_machine(rng, AB, "a")
            try:
                Fixed(machine)
                bounded = True
            except Unbounded:
                bounded = False
            # If a text of so few signs has so long an out, a part of the walk that reads nothing writes for ever.
            outs = said(machine, 3, 20)
            self.assertEqual(bounded, all(len(out) <= 16 for text in outs for out in outs[text]), machine.arcs)
            kinds.add(bounded)
        self.assertEqual(kinds, {True, False})

    def test_the_order_of_errors(self):
        other = Machine.identity(OTHER)
        self.assertRaises(Mixed, Hidden, [ONE, other])
        self.assertRaises(Mixed, Hidden, [ONE] * 61 + [other])
        self.assertRaises(Mixed, Hidden, [ENDLESS, other])
        self.assertRaises(TooMany, Hidden, [ENDLESS] * 61)

    def test_bad_texts(self):
        for station in [Plain(AB), Fixed(ONE), Hearer(random_person(random.Random(1))), Hidden([ONE, ONE])]:
            for text in ["k", "a b", "A"]:
                with self.assertRaises(BadText) as caught:
                    station.outs(text)
                self.assertEqual(caught.exception.text, text)

    def test_lists_are_copied(self):
        machines = [ONE]
        station = Hidden(machines)
        machines.append(pairs(("a", "b")))
        self.assertEqual(station.outs("a"), ["a"])
        station.outs("a").append("b")
        self.assertEqual(station.outs("a"), ["a"])
        self.assertEqual(len(machines), 2)

    def test_other_alphabets(self):
        self.assertEqual(Hidden([Machine.identity(ABK)]).alphabet, ABK)
        self.assertEqual(Fixed(Machine.identity(ABK)).outs("k"), ["k"])


if __name__ == "__main__":
    unittest.main()
