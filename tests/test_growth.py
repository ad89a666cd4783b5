"""Points 27 and 28: growth and pump."""

import math
import random
import unittest

from talepost.growth import growth, pump
from talepost.machines import Machine
from talepost.stocks import Stock

from helpers import AB, by_order, counting_machine, pairs, random_machine, said, shape, spelled

IDENTITY = Machine.identity(AB)


class GrowthTest(unittest.TestCase):
    def test_growth(self):
        self.assertEqual(growth(IDENTITY), (1, 1, 0, "", ""))
        self.assertEqual(growth(spelled([[("a", "bbb", 0), ("b", "", 0)]], [""])), (3, 1, 0, "", ""))
        self.assertEqual(growth(spelled([[("a", "bb", 1)], [("b", "a", 0)]], ["", ""])), (3, 2, 1, "a", "bb"))
        self.assertEqual(growth(spelled([[("a", "", 1)], [("a", "b", 0)]], ["ab", None])), (1, 2, 4, "", "ab"))

    def test_growth_of_zero(self):
        self.assertEqual(growth(pairs(("a", "bb"), ("aaa", "b"), ("-", "-a"))), (0, 1, 2, "-", "-a"))
        self.assertEqual(growth(pairs(("b", "-b"), ("b", "-a"), ("ab", "aa"))), (0, 1, 2, "b", "-a"))
        self.assertEqual(growth(spelled([[("a", "", 0), ("b", "", 0)]], ["b"])), (0, 1, 1, "", "b"))
        self.assertEqual(growth(pairs(("aa", ""))), (0, 1, 0, "aa", ""))

    def test_negative_slack(self):
        late = spelled([[("a", "", 1)], [("a", "b", 1)]], [None, ""])
        self.assertEqual(growth(late), (1, 1, -1, "a", ""))
        self.assertEqual(growth(IDENTITY.on(shape("aaS*")) * late), (1, 1, -1, "aa", "b"))
        slow = spelled([[("a", "", 1)], [("b", "", 2)], [("b", "ab", 3)], [("-", "", 2)]], [None, None, "", None])
        self.assertEqual(growth(slow), (1, 1, -2, "ab", ""))

    def test_says_nothing(self):
        for machine in [pairs(), Machine(AB, [[("", "a", 0)]], [False]), IDENTITY.on(Stock.none(AB))]:
            self.assertEqual(growth(machine), (0, 1, 0, None, None))
            self.assertIsNone(pump(machine))

    def test_infinitely_many(self):
        endless = Machine(AB, [[("a", "", 1)], [("", "b", 2)], [("", "", 1)]], [False, True, False])
        self.assertIsNone(growth(endless))
        self.assertIsNone(pump(endless))
        useless = Machine(AB, [[("a", "a", 0), ("", "b", 1)], [("", "b", 1)]], [True, False])
        self.assertEqual(growth(useless), (1, 1, 0, "", ""))

    def test_pump(self):
        self.assertIsNone(pump(pairs(("a", "bb"))))
        self.assertIsNone(pump(spelled([[("a", "", 0)]], ["bb"])))
        self.check_pump(IDENTITY)
        self.check_pump(spelled([[("a", "bbb", 0), ("b", "", 0)]], ["a"]))
        self.check_pump(spelled([[("a", "b", 1)], [("b", "a-a", 2), ("a", "", 0)], [("-", "b", 1)]], [None, None, "-"]))

    def test_sixty_places(self):
        ring = [[("a", "b", (place + 1) % 60)] for place in range(60)]
        ring[59] = [("a", "bb", 0)]
        machine = spelled(ring, ["" if place == 0 else None for place in range(60)])
        self.assertEqual(growth(machine), (61, 60, 0, "", ""))
        self.check_pump(machine)
        product = counting_machine(AB, 60) * counting_machine(AB, 59)
        self.assertEqual(growth(product), (1, 1, 0, "", ""))
        self.check_pump(product)

    def check_pump(self, machine):
        out, per = growth(machine)[:2]
        found = pump(machine)
        self.assertIsInstance(found, tuple)
        a, b, c, x, y, z = found
        self.assertNotEqual(b, "")
        self.assertEqual(per * len(y), out * len(b))
        for times in range(4):
            self.assertTrue(machine.says(a + b * times + c, x + y * times + z))

    def test_random(self):
        rng = random.Random(41)
        for _ in range(300):
            machine = random_machine(rng)
            kept = str([machine.arcs, machine.goods])
            found = growth(machine)
            if found is None:
                self.assertIsNone(pump(machine))
                self.assertIn(None, [machine.outs(text) for text in said(machine, 5, 3)])
                continue
            out, per, slack, text, told = found
            outs = said(machine, 6, 9)
            if text is None:
                self.assertEqual([found, outs], [(0, 1, 0, None, None), {}])
                continue
            self.assertTrue(out >= 0 and per >= 1 and math.gcd(out, per) == 1)
            self.assertTrue(machine.says(text, told))
            self.assertEqual(per * len(told), out * len(text) + slack)
            for heard, ends in outs.items():
                for end in ends:
                    self.assertLessEqual(per * len(end), out * len(heard) + slack)
                equal = [end for end in ends if per * len(end) == out * len(heard) + slack]
                if equal:
                    self.assertLessEqual(by_order(text), by_order(heard))
                    if heard == text:
                        self.assertEqual(told, min(equal, key=by_order))
            if out > 0:
                self.check_pump(machine)
            else:
                self.assertIsNone(pump(machine))
            self.assertEqual(kept, str([machine.arcs, machine.goods]))


if __name__ == "__main__":
    unittest.main()
