"""Point 84: printed lines."""

import unittest

from talepost.ledgers import Ledger
from talepost.machines import Machine
from talepost.menus import Menu
from talepost.people import Person
from talepost.posts import Post
from talepost.printing import post_lines, world_lines
from talepost.stations import Fixed, Hearer, Hidden, Plain

from helpers import AB, pairs


class WorldLinesTest(unittest.TestCase):
    def test_lines(self):
        post = Post(AB, A=Hidden(Menu.made(AB, "drop vowels").machines()), B=Hidden([pairs(("b", "b" * at)) for at in range(12)]))
        ledger = Ledger(post, limit=1)
        ledger.see("A", "ab", "b")
        ledger.see("B", "b", "b" * 11)
        lines = world_lines(ledger)
        self.assertEqual(len(lines), 24)
        self.assertEqual(lines[0], "0,0        out    2")
        self.assertEqual(lines[11], "0,11       left   1")
        self.assertEqual(lines[12], "1,0        left   1")
        self.assertEqual(lines[23], "1,11       left   0")

    def test_no_hidden_station(self):
        ledger = Ledger(Post(AB, P=Plain(AB)))
        self.assertEqual(world_lines(ledger), ["-          left   0"])

    def test_what_is_too_wide_is_not_cut(self):
        one = Hidden([Machine.identity(AB)])
        post = Post(AB, **{letter: one for letter in "ABCDE"}, F=Hidden([pairs(("a", "a" * at)) for at in range(11)]))
        ledger = Ledger(post, limit=10 ** 6)
        for _ in range(1000):
            ledger.see("A", "a", "b")
        lines = world_lines(ledger)
        self.assertEqual(lines[1], "0,0,0,0,0,1 left 1000")
        self.assertEqual(lines[10], "0,0,0,0,0,10 left 1000")
        for number in range(1, 1000):
            ledger.withdraw(number)
        self.assertEqual(world_lines(ledger)[0], "0,0,0,0,0,0 left   1")

    def test_a_new_list(self):
        ledger = Ledger(Post(AB, P=Plain(AB)))
        world_lines(ledger).append("X")
        self.assertEqual(len(world_lines(ledger)), 1)


class PostLinesTest(unittest.TestCase):
    def test_lines(self):
        sure, unsure = Person(AB, "-aa", ["-", "a", "b"]), Person(AB, "-ab", ["-", "a", "ab"])
        post = Post(AB, Z=Plain(AB), A=Hearer(sure), B=Hearer(unsure), C=Fixed(pairs(("a", "b"))), D=Fixed(pairs(("a", "b"), ("a", ""))),
                    E=Hidden([Machine.identity(AB)] * 2), F=Hidden(Menu.made(AB, "once all").machines()))
        self.assertEqual(post_lines(post), ["A person certain", "B person several", "C fixed  certain", "D fixed  several",
                                            "E hidden certain", "F hidden several", "Z plain  certain"])
        self.assertEqual(post_lines(Post(AB)), [])


if __name__ == "__main__":
    unittest.main()
