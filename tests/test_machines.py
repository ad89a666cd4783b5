"""Points 14 to 18: letter machines."""

import random
import unittest

from talepost.errors import BadTable, BadText, Mixed
from talepost.machines import Machine
from talepost.stocks import Stock

from helpers import AB, OTHER, all_texts, by_order, counting_machine, counting_stock, pairs, random_machine, random_stock
from helpers import said, shape, spelled


class MakingTest(unittest.TestCase):
    def test_table_is_kept(self):
        arcs = [[("a", "b", 1), ("", "-", 1), ("a", "b", 1)], [], [("b", "", 0)]]
        machine = Machine(AB, arcs, [False, True, False])
        self.assertEqual(machine.arcs, [[("a", "b", 1), ("", "-", 1), ("a", "b", 1)], [], [("b", "", 0)]])
        self.assertEqual(machine.goods, [False, True, False])
        self.assertEqual(len(machine), 3)
        self.assertEqual(machine.alphabet, AB)

    def test_copies(self):
        arcs, goods = [[("a", "b", 0)]], [True]
        machine = Machine(AB, arcs, goods)
        arcs[0].append(("b", "b", 0))
        arcs.append([])
        goods[0] = False
        self.assertEqual([machine.arcs, machine.goods], [[[("a", "b", 0)]], [True]])

    def test_bad_tables(self):
        cases = [([], [], -1), ([], [True], -1), ([[]], [], -1), ([[]], [True, True], -1), ([[("a", "b", 9)]], [], -1),
                 ([[("c", "a", 0)]], [True], 0), ([[("a", "c", 0)]], [True], 0), ([[("ab", "a", 0)]], [True], 0),
                 ([[("a", "ab", 0)]], [True], 0), ([[("a", "a", 1)]], [True], 0), ([[("a", "a", -1)]], [True], 0),
                 ([[("a", "a", 10 ** 39)]], [True], 0), ([[("a", "a", 1)], [("", "", 0), ("A", "", 0)], [("?", "", 7)]],
                                                         [True, False, True], 1)]
        for arcs, goods, place in cases:
            with self.assertRaises(BadTable) as caught:
                Machine(AB, arcs, goods)
            self.assertEqual(caught.exception.place, place)

    def test_identity(self):
        machine = Machine.identity(AB)
        for text in all_texts(AB, 2):
            self.assertEqual(machine.outs(text), [text])

    def test_of_pairs(self):
        listed = [("ab", ""), ("", "b"), ("a", "bbb"), ("a", "-"), ("a", "-"), ("a" * 60, "b" * 60)]
        machine = Machine.of_pairs(AB, listed)
        self.assertEqual(machine.outs("a"), ["-", "bbb"])
        self.assertEqual(machine.outs("ab"), [""])
        self.assertEqual(machine.outs(""), ["b"])
        self.assertEqual(machine.outs("b"), [])
        self.assertEqual(machine.outs("a" * 60), ["b" * 60])
        self.assertEqual(list(machine.domain().texts(60)), ["", "a", "ab", "a" * 60])
        self.assertEqual(list(pairs().domain().texts(60)), [])
        self.assertEqual(len(listed), 6)
        for wrong, text in [([("a", "b"), ("?", "!")], "?"), ([("a", "x"), ("?", "b")], "x")]:
            with self.assertRaises(BadText) as caught:
                Machine.of_pairs(AB, wrong)
            self.assertEqual(caught.exception.text, text)

    def test_spelled(self):
        rows = [[("a", "bb-", 0), ("b", "", 1), ("", "ab", 2)], [("-", "b", 1)], []]
        machine = spelled(rows, ["", "ab", "b"])
        self.assertEqual(machine.outs(""), ["", "abb"])
        self.assertEqual(machine.outs("aa"), ["bb-bb-", "bb-bb-abb"])
        self.assertEqual(machine.outs("ab--"), ["bb-bbab"])
        self.assertEqual(spelled([[]], [None]).outs(""), [])
        self.assertEqual(spelled([[]], ["ab-a"]).outs(""), ["ab-a"])
        self.assertEqual(spelled([[("a", "b" * 60, 0)]], [""]).outs("aa"), ["b" * 120])
        self.assertIsNone(spelled([[("", "ab", 0)]], [""]).outs(""))

    def test_bad_spelled(self):
        cases = [([], [], -1), ([[]], [], -1), ([[]], [None, None], -1), ([[("ab", "", 0)]], [None], 0),
                 ([[("c", "", 0)]], [None], 0), ([[("a", "bc", 0)]], [None], 0), ([[("a", "b", 1)]], [None], 0),
                 ([[("a", "b", -1)]], [None], 0), ([[]], ["c"], 0), ([[], [], [("?", "", 0)]], [None, "aB", None], 1),
                 ([[("a", "", 2)], [], [("?", "", 0)]], [None, "b", None], 2)]
        for rows, ends, place in cases:
            with self.assertRaises(BadTable) as caught:
                Machine.spelled(AB, rows, ends)
            self.assertEqual(caught.exception.place, place)

    def test_sixty_places(self):
        machine = counting_machine(AB, 60, lambda place, sign: "b" if place == 59 else sign)
        self.assertEqual(machine.outs("a" * 60), ["a" * 59 + "b"])
        self.assertEqual(machine.outs("a" * 59), [])
        self.assertEqual(machine.domain(), counting_stock(AB, 60))

    def test_methods_stand_in_the_class(self):
        listed = """identity of_pairs spelled on into image source domain outs says __init__ __len__ __mul__ __or__
                    __invert__""".split()
        self.assertLessEqual(set(listed), set(vars(Machine)))


class OperatorsTest(unittest.TestCase):
    def test_random_operators(self):
        rng = random.Random(11)
        texts = all_texts(AB, 2)
        for _ in range(60):
            one, other, stock = random_machine(rng), random_machine(rng), random_stock(rng)
            kept = str([one.arcs, one.goods, other.arcs, other.goods, stock.rows, stock.goods])
            product, union, inverse = one * other, one | other, ~one
            on, into = one.on(stock), one.into(stock)
            for text in texts:
                mids = said(one, len(text), 9).get(text, set())
                for out in texts:
                    says = one.says(text, out)
                    self.assertEqual(product.says(text, out), any(other.says(mid, out) for mid in mids))
                    self.assertEqual(union.says(text, out), says or other.says(text, out))
                    self.assertEqual(inverse.says(out, text), says)
                    self.assertEqual(on.says(text, out), says and text in stock)
                    self.assertEqual(into.says(text, out), says and out in stock)
            self.assertEqual(kept, str([one.arcs, one.goods, other.arcs, other.goods, stock.rows, stock.goods]))

    def test_product_order(self):
        first, second = pairs(("a", "b")), pairs(("b", "-"))
        self.assertEqual((first * second).outs("a"), ["-"])
        self.assertEqual((second * first).outs("b"), [])
        dropping = spelled([[("a", "", 0), ("b", "b", 0), ("-", "-", 0)]], [""])
        doubling = spelled([[(sign, sign + sign, 0) for sign in "-ab"]], ["a"])
        self.assertEqual((dropping * doubling).outs("aba-a"), ["bb--a"])
        self.assertEqual((doubling * dropping).outs("ab"), ["bb"])
        self.assertEqual((~doubling * doubling).outs("bba"), ["bba"])
        self.assertIsNone((~dropping * Machine.identity(AB)).outs("b"))

    def test_silent_machine(self):
        nothing = Machine(AB, [[("a", "b", 0)]], [False])
        for machine in [nothing, ~nothing, nothing * nothing, nothing | nothing, nothing.on(Stock.every(AB)),
                        Machine.identity(AB).on(Stock.none(AB)), Machine.identity(AB).into(Stock.none(AB)),
                        Machine.identity(AB) * nothing]:
            self.assertEqual(machine.outs(""), [])
            self.assertIs(machine.says("a", "b"), False)
            self.assertEqual(machine.domain(), Stock.none(AB))
            self.assertEqual(machine.image(Stock.every(AB)), Stock.none(AB))
            self.assertGreaterEqual(len(machine), 1)

    def test_mixed(self):
        mine, other, stock = Machine.identity(AB), Machine.identity(OTHER), Stock.every(OTHER)
        for deed in [lambda: mine * other, lambda: mine | other, lambda: mine.on(stock), lambda: mine.into(stock),
                     lambda: mine.image(stock), lambda: mine.source(stock)]:
            self.assertRaises(Mixed, deed)


class QuestionsTest(unittest.TestCase):
    def test_random_images(self):
        rng = random.Random(12)
        for _ in range(60):
            machine, stock = random_machine(rng), random_stock(rng)
            image, source, domain = machine.image(stock), machine.source(stock), machine.domain()
            for text in all_texts(AB, 3):
                outs = said(machine, 3, 9).get(text, set())
                heard = [one for one, ends in said(machine, 9, 3).items() if text in ends and one in stock]
                self.assertEqual(text in image, len(heard) > 0)
                self.assertEqual(text in source, any(out in stock for out in outs))
                self.assertEqual(text in domain, len(outs) > 0)

    def test_image_and_source(self):
        machine = spelled([[("a", "b", 0), ("b", "", 0), ("", "-", 1)], []], [None, ""])
        self.assertEqual(machine.image(shape("(ab)*")), shape("b*-"))
        self.assertEqual(machine.source(shape("b-")), shape("b*ab*"))
        self.assertEqual(machine.domain(), shape("L*"))
        self.assertEqual(machine.image(Stock.none(AB)), Stock.none(AB))

    def test_search_over_sets(self):
        rows = [[(sign, sign, 0) for sign in "-ab"] + [("a", "a", 1)]]
        rows += [[(sign, sign, place + 1) for sign in "-ab"] for place in range(1, 10)]
        machine = Machine(AB, rows + [[]], [False] * 10 + [True])
        self.assertEqual(len(machine.domain().rows), 1024)

    def test_outs(self):
        machine = Machine(AB, [[("a", "a", 0), ("a", "b", 0), ("b", "", 0)]], [True])
        self.assertEqual(machine.outs("aba"), ["aa", "ab", "ba", "bb"])
        self.assertEqual(machine.outs(""), [""])
        self.assertEqual(machine.outs("-"), [])
        self.assertEqual(len(machine.outs("a" * 10)), 1024)
        lengths = spelled([[("a", "", 0), ("a", "bb", 0), ("a", "a", 0)]], [""])
        self.assertEqual(lengths.outs("aa"), sorted({"", "a", "bb", "aa", "abb", "bba", "bbbb"}, key=by_order))

    def test_infinitely_many_outs(self):
        machine = Machine(AB, [[("a", "a", 1)], [("", "b", 2)], [("", "", 1), ("b", "-", 0)]], [True, False, True])
        self.assertEqual(machine.outs(""), [""])
        self.assertIsNone(machine.outs("a"))
        self.assertIsNone(machine.outs("ab"))
        self.assertEqual(machine.outs("aa"), [])
        self.assertIs(machine.says("a", "abb"), True)
        self.assertIs(machine.says("a", "a" + "b" * 59), True)
        self.assertIs(machine.says("a", "ab-"), False)

    def test_rings_that_say_nothing(self):
        ring = Machine(AB, [[("", "", 1), ("a", "b", 0)], [("", "", 0)]], [False, True])
        self.assertEqual(ring.outs("aa"), ["bb"])
        side = Machine(AB, [[("a", "b", 0), ("", "b", 1)], [("", "b", 1)]], [True, False])
        self.assertEqual(side.outs("a"), ["b"])

    def test_random_outs(self):
        rng = random.Random(13)
        for _ in range(80):
            machine = random_machine(rng)
            for text in all_texts(AB, 2):
                outs, slow = machine.outs(text), said(machine, len(text), 11).get(text, set())
                if outs is None:
                    self.assertGreater(len(slow), 2)
                else:
                    self.assertEqual(outs, sorted(slow, key=by_order))

    def test_bad_texts(self):
        machine = Machine.identity(AB)
        for deed, text in [(lambda: machine.outs("ac"), "ac"), (lambda: machine.says("c", "d"), "c"),
                           (lambda: machine.says("a", "d"), "d"), (lambda: machine.says("c", "a"), "c")]:
            with self.assertRaises(BadText) as caught:
                deed()
            self.assertEqual(caught.exception.text, text)

    def test_returned_lists_are_new(self):
        machine = Machine.identity(AB)
        machine.outs("a").append("b")
        self.assertEqual(machine.outs("a"), ["a"])


if __name__ == "__main__":
    unittest.main()
