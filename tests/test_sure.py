"""Points 22 to 26: what is surely known."""

import random
import unittest

from talepost.errors import Mixed, Uncertain
from talepost.leads import leads_hold, lead_rows
from talepost.machines import Machine
from talepost.stocks import Stock
from talepost.sure import doubt, is_certain, link, melted, returned, same, several, tells

from helpers import AB, OTHER, all_texts, by_order, counting_machine, counting_stock, pairs, random_machine, random_stock
from helpers import said, shape, spelled

EVERY = Stock.every(AB)
IDENTITY = Machine.identity(AB)
NOTHING = Machine(AB, [[("a", "b", 0)]], [False])
ENDLESS = Machine(AB, [[("a", "", 1)], [("", "b", 1)]], [False, True])
DROPPING = spelled([[("a", "", 0), ("b", "b", 0), ("-", "-", 0)]], [""])


class LinkTest(unittest.TestCase):
    def test_link(self):
        machine = link(DROPPING, IDENTITY, shape("a*b"))
        self.assertIsNone(machine.outs("b"))
        self.assertEqual(machine.outs("bb"), [])
        self.assertIs(machine.says("b", "aaab"), True)
        self.assertIs(machine.says("b", "aba"), False)
        self.assertEqual(link(IDENTITY, DROPPING, shape("a?b-")).outs("ab-"), ["b-"])
        self.assertEqual(link(IDENTITY, DROPPING, shape("a?b-")).outs("ab"), [])
        self.assertEqual(link(NOTHING, IDENTITY, EVERY).domain(), Stock.none(AB))
        self.assertEqual(link(IDENTITY, NOTHING, EVERY).domain(), Stock.none(AB))
        self.assertEqual(link(IDENTITY, IDENTITY, Stock.none(AB)).domain(), Stock.none(AB))

    def test_certain(self):
        self.assertIs(is_certain(IDENTITY), True)
        self.assertIs(is_certain(NOTHING), True)
        self.assertIs(is_certain(DROPPING), True)
        self.assertIs(is_certain(~DROPPING), False)
        self.assertIs(is_certain(ENDLESS), False)
        self.assertIs(is_certain(pairs(("a", "b"), ("a", "-"))), False)
        self.assertIs(is_certain((~DROPPING).into(shape("b?"))), True)
        self.assertIs(is_certain(counting_machine(AB, 60) * counting_machine(AB, 59)), True)

    def test_certain_in_two_ways(self):
        twice = Machine(AB, [[("a", "", 1), ("a", "b", 2)], [("", "b", 3)], [("", "", 3)], []],
                        [False, False, False, True])
        self.assertIs(is_certain(twice), True)
        self.assertIsNotNone(lead_rows(twice, twice))
        self.assertTrue(leads_hold(twice, twice, lead_rows(twice, twice)))

    def test_several(self):
        self.assertIsNone(several(IDENTITY))
        self.assertIsNone(several(NOTHING))
        self.assertEqual(several(ENDLESS), ("a", "", "b"))
        self.assertEqual(several(~DROPPING), ("", "", "a"))
        self.assertEqual(several(pairs(("ab", "b"), ("ab", "aa"), ("ab", "-"), ("b", "a"))), ("ab", "-", "b"))
        self.assertEqual(several(pairs(("a", "aab"), ("a", "aaa"), ("a", "aaab"))), ("a", "aaa", "aab"))

    def test_random_several(self):
        rng = random.Random(31)
        for _ in range(200):
            machine = random_machine(rng)
            found = several(machine)
            slow = [text for text, outs in said(machine, 4, 8).items() if len(outs) > 1]
            self.assertEqual(is_certain(machine), found is None)
            self.assertEqual(found is None, lead_rows(machine, machine) is not None)
            if found is None:
                self.assertEqual(slow, [])
                continue
            text, one, other = found
            self.assertEqual(sorted(said(machine, len(text), 12)[text], key=by_order)[:2], [one, other])
            if slow:
                self.assertLessEqual(by_order(text), by_order(min(slow, key=by_order)))


class DoubtTest(unittest.TestCase):
    def test_doubt(self):
        self.assertIsNone(doubt(IDENTITY, DROPPING, EVERY))
        self.assertEqual(doubt(DROPPING, IDENTITY, EVERY), ("", "", "a", "", "a"))
        self.assertIsNone(doubt(DROPPING, IDENTITY, shape("b*")))
        self.assertEqual(doubt(DROPPING, IDENTITY, shape("b*|b*ab")), ("b", "b", "ab", "b", "ab"))
        self.assertIsNone(doubt(DROPPING, IDENTITY, Stock.none(AB)))
        self.assertIsNone(doubt(NOTHING, IDENTITY, EVERY))

    def test_one_text_leaves_a_doubt(self):
        both = pairs(("a", "b"), ("a", "bb"))
        self.assertEqual(doubt(IDENTITY, both, EVERY), ("a", "b", "bb", "a", "a"))
        self.assertEqual(doubt(IDENTITY, ENDLESS, EVERY), ("a", "", "b", "a", "a"))
        self.assertEqual(doubt(pairs(("b", ""), ("a", "")), both | pairs(("b", "bb")), EVERY), ("", "b", "bb", "a", "a"))

    def test_sixty_places(self):
        first, second = counting_machine(AB, 60), counting_machine(AB, 59)
        self.assertIsNone(doubt(first, second, counting_stock(AB, 4)))
        mishearing = counting_machine(AB, 60, lambda place, sign: "b" if place == 59 else sign)
        out, one, other, text, other_text = doubt(mishearing, IDENTITY, counting_stock(AB, 60))
        self.assertEqual([out, one, other], ["-" * 59 + "b", "-" * 60, "-" * 59 + "a"])
        self.assertEqual([text, other_text], [one, other])

    def test_random_doubt(self):
        rng = random.Random(32)
        for _ in range(80):
            first, second, stock = random_machine(rng), random_machine(rng), random_stock(rng)
            kept = str([first.arcs, second.arcs, stock.rows])
            machine = link(first, second, stock)
            found = doubt(first, second, stock)
            self.assertEqual(found is None, is_certain(machine))
            if found is not None:
                out, one, other, text, other_text = found
                self.assertEqual(several(machine), (out, one, other))
                for asked, expected in [(one, text), (other, other_text)]:
                    fitting = [each for each in all_texts(AB, min(len(expected), 6)) if each in stock
                               and first.says(each, out) and second.says(each, asked)]
                    self.assertEqual(fitting, [expected] if len(expected) <= 6 else [])
            self.assertEqual(kept, str([first.arcs, second.arcs, stock.rows]))


class MeltedTest(unittest.TestCase):
    def test_melted(self):
        self.assertIsNone(melted(IDENTITY, EVERY))
        self.assertIsNone(melted(NOTHING, EVERY))
        self.assertEqual(melted(DROPPING, EVERY), ("", "", "a"))
        self.assertEqual(melted(DROPPING, shape("aS+")), ("", "aa", "aaa"))
        self.assertIsNone(melted(DROPPING, shape("ab*")))
        self.assertEqual(melted(ENDLESS | pairs(("b", "bb")), EVERY), ("bb", "a", "b"))
        self.assertIsNone(melted(ENDLESS, EVERY))

    def test_random_melted(self):
        rng = random.Random(33)
        for _ in range(150):
            machine, stock = random_machine(rng), random_stock(rng)
            found = melted(machine, stock)
            self.assertEqual(found is None, is_certain(~machine.on(stock)))
            heard = {}
            for text, outs in said(machine, 4, 4).items():
                for out in outs:
                    if text in stock:
                        heard.setdefault(out, []).append(text)
            slow = [out for out, texts in heard.items() if len(texts) > 1]
            if found is None:
                self.assertEqual(slow, [])
            else:
                out, one, other = found
                self.assertTrue(one in stock and other in stock and machine.says(one, out) and machine.says(other, out))
                self.assertLess(by_order(one), by_order(other))
                if slow:
                    self.assertLessEqual(by_order(out), by_order(min(slow, key=by_order)))
                if len(other) <= 4 and len(out) <= 4:
                    self.assertEqual(sorted(heard[out], key=by_order)[:2], [one, other])


class SameTest(unittest.TestCase):
    def test_same(self):
        self.assertIsNone(same(IDENTITY, IDENTITY))
        self.assertIsNone(same(NOTHING, pairs()))
        self.assertEqual(same(IDENTITY, NOTHING), "")
        self.assertEqual(same(IDENTITY, DROPPING), "a")
        self.assertEqual(same(IDENTITY.on(shape("a*")), IDENTITY.on(shape("a*b?"))), "b")
        self.assertEqual(same(pairs(("a", "b"), ("ab", "")), pairs(("a", "b"), ("b", "b"), ("ab", "a"))), "b")
        self.assertEqual(same(pairs(("a", "b"), ("ab", "")), pairs(("a", "-"), ("b", "b"))), "a")
        late = spelled([[("a", "", 1)], [("a", "bb", 0)]], ["", "b"])
        self.assertIsNone(same(late, spelled([[("a", "b", 0)]], [""])))

    def test_certain_on_a_stock_only(self):
        with self.assertRaises(Uncertain) as caught:
            same(~DROPPING, IDENTITY)
        self.assertEqual(caught.exception.text, "")
        narrow = (~DROPPING).into(shape("b*"))
        self.assertIsNone(same(narrow, IDENTITY.on(shape("b*"))))

    def test_uncertain(self):
        one, other = pairs(("ab", "a"), ("ab", "b")), pairs(("b", "a"), ("b", ""))
        for first, second, text in [(one, other, "ab"), (other, one, "b"), (IDENTITY, other, "b"), (one, IDENTITY, "ab"),
                                    (one, one, "ab"), (ENDLESS, other, "a")]:
            with self.assertRaises(Uncertain) as caught:
                same(first, second)
            self.assertEqual(caught.exception.text, text)

    def test_random_same(self):
        rng = random.Random(34)
        many = 0
        while many < 60:
            first, second = random_machine(rng), random_machine(rng)
            if is_certain(first) and is_certain(second):
                many += 1
                unlike = [text for text in all_texts(AB, 4) if first.outs(text) != second.outs(text)]
                found = same(first, second)
                if unlike:
                    self.assertEqual(found, unlike[0])
                else:
                    self.assertTrue(found is None or len(found) > 4)


class ReturnedTest(unittest.TestCase):
    def test_returned(self):
        self.assertIsNone(returned(IDENTITY, EVERY))
        self.assertEqual(returned(DROPPING, EVERY), "a")
        self.assertIsNone(returned(DROPPING, shape("(b|-)*")))
        self.assertIsNone(returned(NOTHING, Stock.none(AB)))
        self.assertEqual(returned(NOTHING, shape("a+")), "a")
        self.assertEqual(returned(IDENTITY | pairs(("b", "bb")), EVERY), "b")
        self.assertEqual(returned(IDENTITY.on(shape("S?")), EVERY), "--")
        self.assertEqual(returned(IDENTITY | Machine(AB, [[("b", "", 1)], [("", "b", 1)]], [False, True]), shape("a|b")), "b")

    def test_returned_in_two_ways(self):
        twice = Machine(AB, [[("a", "a", 0), ("a", "", 1)], [("", "a", 0)]], [True, False])
        self.assertIsNone(returned(twice, shape("a*")))
        self.assertEqual(returned(twice, shape("a*b?")), "b")

    def test_random_returned(self):
        rng = random.Random(35)
        for _ in range(100):
            machine, stock = random_machine(rng) | random_machine(rng), random_stock(rng)
            found = returned(machine, stock)
            wrong = [text for text in all_texts(AB, 3) if text in stock and machine.outs(text) != [text]]
            if wrong:
                self.assertEqual(found, wrong[0])
            else:
                self.assertTrue(found is None or len(found) > 3)


class TellsTest(unittest.TestCase):
    def test_tells(self):
        self.assertIsNone(tells(IDENTITY, EVERY, shape("a*")))
        self.assertEqual(tells(DROPPING, EVERY, shape("a*")), None)
        self.assertEqual(tells(DROPPING, EVERY, shape("a*b*")), ("b", "b", "ba"))
        self.assertEqual(tells(DROPPING, shape("ab|aab|b"), shape("aa*b")), ("b", "ab", "b"))
        self.assertIsNone(tells(DROPPING, shape("ab|aab"), shape("aa*b")))
        self.assertIsNone(tells(NOTHING, EVERY, shape("a")))
        self.assertIsNone(tells(DROPPING, Stock.none(AB), shape("a")))
        self.assertIsNone(tells(DROPPING, EVERY, EVERY))
        self.assertIsNone(tells(DROPPING, EVERY, Stock.none(AB)))
        self.assertEqual(tells(ENDLESS | pairs(("b", "bbb")), EVERY, shape("b")), ("bbb", "b", "a"))

    def test_random_tells(self):
        rng = random.Random(36)
        for _ in range(100):
            machine, stock, asked = random_machine(rng), random_stock(rng), random_stock(rng)
            found = tells(machine, stock, asked)
            inside, outside = {}, {}
            for text, outs in said(machine, 4, 4).items():
                if text in stock:
                    for out in outs:
                        (inside if text in asked else outside).setdefault(out, []).append(text)
            slow = sorted(set(inside) & set(outside), key=by_order)
            if found is None:
                self.assertEqual(slow, [])
                continue
            out, one, other = found
            self.assertTrue(one in stock and one in asked and other in stock and other not in asked)
            self.assertTrue(machine.says(one, out) and machine.says(other, out))
            if slow:
                self.assertLessEqual(by_order(out), by_order(slow[0]))
                if slow[0] == out:
                    self.assertEqual([min(inside[out], key=by_order), min(outside[out], key=by_order)], [one, other])


class MixedTest(unittest.TestCase):
    def test_mixed(self):
        mine, other, here, there = IDENTITY, Machine.identity(OTHER), EVERY, Stock.every(OTHER)
        uncertain = pairs(("a", "b"), ("a", "-"))
        deeds = [lambda: link(mine, other, here), lambda: link(mine, mine, there), lambda: link(other, mine, here),
                 lambda: doubt(mine, other, here), lambda: doubt(mine, mine, there), lambda: melted(mine, there),
                 lambda: same(uncertain, other), lambda: same(other, uncertain), lambda: returned(mine, there),
                 lambda: tells(mine, there, here), lambda: tells(mine, here, there), lambda: tells(other, here, here)]
        for deed in deeds:
            self.assertRaises(Mixed, deed)


if __name__ == "__main__":
    unittest.main()
