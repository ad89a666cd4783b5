"""Points 7 to 13: stocks, shapes, and how long their texts are."""

import inspect
import random
import unittest

from talepost.errors import BadShape, BadTable, BadText, Mixed
from talepost.letters import Alphabet
from talepost.stocks import Stock, differing

from helpers import AB, OTHER, all_texts, counting_stock, random_stock, shape


class TableTest(unittest.TestCase):
    def test_least_table(self):
        rows = [[1, 2, -1], [3, 3, 3], [2, 4, -1], [3, -1, 3], [2, 4, 3], [0, 0, 0]]
        stock = Stock(AB, rows, [False, False, True, False, True, True])
        self.assertEqual(stock.rows, [[-1, 1, -1], [1, 1, -1]])
        self.assertEqual(stock.goods, [False, True])
        self.assertEqual(stock, Stock.shaped(AB, "a(-|a)*"))
        self.assertEqual(stock.alphabet, AB)

    def test_empty_stock(self):
        for stock in [Stock.none(AB), Stock(AB, [[1, 1, 1], [0, 0, 0]], [False, False]), Stock.listed(AB, []),
                      Stock(AB, [[-1, -1, -1], [1, 1, 1]], [False, True])]:
            self.assertEqual([stock.rows, stock.goods], [[[-1, -1, -1]], [False]])
            self.assertEqual(stock, Stock.none(AB))
            self.assertIs(bool(stock), False)
            self.assertNotIn("", stock)

    def test_least_table_is_unique(self):
        rng = random.Random(5)
        for _ in range(200):
            one, other = random_stock(rng), random_stock(rng)
            has = [text for text in all_texts(AB, 4) if (text in one) != (text in other)]
            if has:
                self.assertNotEqual(one, other)
            else:
                self.assertEqual(one == other, differing(one, other) is None)
            self.assertEqual(Stock(AB, one.rows, one.goods).rows, one.rows)
            many = len(one.rows)
            shifted = [[to if to < 0 else to + many for to in row] for row in one.rows]
            twice = Stock(AB, [[to + many if to >= 0 else to for to in one.rows[0]]] + one.rows[1:] + shifted,
                          one.goods + one.goods)
            self.assertEqual([twice.rows, twice.goods], [one.rows, one.goods])

    def test_numbered_by_first_texts(self):
        stock = Stock(AB, [[3, 2, 1], [-1, -1, 1], [-1, 2, 1], [3, -1, 2]], [False, True, True, True])
        firsts = []
        for place in range(len(stock.rows)):
            for text in all_texts(AB, 4):
                at = 0
                for sign in text:
                    at = stock.rows[at]["-ab".index(sign)] if at >= 0 else -1
                if at == place:
                    firsts.append((len(text), text))
                    break
        self.assertEqual(firsts, sorted(firsts))
        self.assertEqual(len(firsts), len(stock.rows))

    def test_bad_table(self):
        good = [[0, 0, 0]]
        cases = [([], [], -1), ([], [True], -1), (good, [], -1), (good, [True, False], -1), ([[0]], [], -1),
                 ([[0, 0]], [True], 0), ([[0, 0, 0, 0]], [True], 0), ([[0, 0, 1]], [True], 0), ([[-2, 0, 0]], [True], 0),
                 ([[0, 1, -1], [0, 0, 10 ** 39], []], [True, True, False], 1), ([[-1, -1, -1], []], [True, True], 1),
                 ([[0, 0, -10 ** 39]], [True], 0)]
        for rows, goods, place in cases:
            with self.assertRaises(BadTable) as caught:
                Stock(AB, rows, goods)
            self.assertEqual(caught.exception.place, place)

    def test_copies(self):
        rows, goods = [[1, -1, -1], [-1, -1, 0]], [True, False]
        stock = Stock(AB, rows, goods)
        rows[0][0] = 0
        goods[1] = True
        self.assertEqual(list(stock.texts(2)), ["", "-b"])
        texts = ["a"]
        listed = Stock.listed(AB, texts)
        texts.append("b")
        self.assertNotIn("b", listed)
        self.assertEqual(texts, ["a", "b"])

    def test_sixty_places(self):
        stock = counting_stock(AB, 60)
        self.assertEqual(len(stock.rows), 60)
        self.assertIn("ab-" * 20, stock)
        self.assertNotIn("ab-" * 19, stock)
        self.assertEqual(stock.first(), "")
        self.assertEqual(len((stock & counting_stock(AB, 59)).rows), 60 * 59)
        self.assertEqual(differing(stock, counting_stock(AB, 59)), "-" * 59)
        self.assertEqual((stock - counting_stock(AB, 30)), Stock.none(AB))

    def test_class_methods(self):
        self.assertEqual([Stock.every(AB).rows, Stock.every(AB).goods], [[[0, 0, 0]], [True]])
        self.assertEqual(list(Stock.listed(AB, ["b", "", "b", "a-"]).texts(60)), ["", "b", "a-"])
        self.assertIn("a" * 60, Stock.listed(AB, ["a" * 60]))
        with self.assertRaises(BadText) as caught:
            Stock.listed(AB, ["a", "c", "?"])
        self.assertEqual(caught.exception.text, "c")
        one = Alphabet("x")
        self.assertEqual(list(Stock.every(one).texts(1)), ["", "-", "x"])

    def test_methods_stand_in_the_class(self):
        listed = """every none listed shaped first texts how_many extent __eq__ __contains__ __and__ __or__ __sub__
                    __bool__ __init__""".split()
        self.assertLessEqual(set(listed), set(vars(Stock)))


class ShapeTest(unittest.TestCase):
    def listed(self, written, most=3, alphabet=AB):
        return list(Stock.shaped(alphabet, written).texts(most))

    def test_atoms(self):
        self.assertEqual(self.listed("C"), ["b"])
        self.assertEqual(self.listed("V"), ["a"])
        self.assertEqual(self.listed("L"), ["a", "b"])
        self.assertEqual(self.listed("J"), ["-"])
        self.assertEqual(self.listed("S"), ["-", "a", "b"])
        self.assertEqual(self.listed("-"), ["-"])
        self.assertEqual(self.listed("(b)"), ["b"])
        self.assertEqual(self.listed("V", alphabet=OTHER), [])
        self.assertEqual(self.listed("V*a", alphabet=OTHER), ["a"])
        self.assertEqual(self.listed("V|b", alphabet=OTHER), ["b"])
        self.assertEqual(self.listed("V?", alphabet=OTHER), [""])

    def test_items_and_branches(self):
        self.assertEqual(self.listed("a?"), ["", "a"])
        self.assertEqual(self.listed("a*"), ["", "a", "aa", "aaa"])
        self.assertEqual(self.listed("a+"), ["a", "aa", "aaa"])
        self.assertEqual(self.listed("ab?|-"), ["-", "a", "ab"])
        self.assertEqual(self.listed("(ab|b)+"), ["b", "ab", "bb", "abb", "bab", "bbb"])
        self.assertEqual(self.listed("(a?-)*", 2), ["", "-", "--", "a-"])
        self.assertEqual(self.listed("(((a)b)?-)*", 3), ["", "-", "--", "---", "ab-"])
        self.assertEqual(self.listed("(a*|b)*", 1), ["", "a", "b"])
        self.assertEqual(self.listed("(a*b)*a", 3), ["a", "ba", "aba", "bba"])
        self.assertEqual(self.listed("a(b|-)?a*", 2), ["a", "a-", "aa", "ab"])

    def test_bad_shapes(self):
        cases = {"": 0, "a**": 2, "()": 1, "(a": 2, "a|": 2, "|a": 0, "a||b": 2, "a)": 1, "*": 0, "a?+": 2, "c": 0,
                 "ax": 1, "(": 1, "(a|": 3, "(|a)": 1, "a b": 1, "A": 0, "(*a)": 1, "(a)**": 4, "a|*": 2, "((a)": 4,
                 "a|)": 2, "(a)) ": 3}
        for written, place in cases.items():
            with self.subTest(shape=written), self.assertRaises(BadShape) as caught:
                shape(written)
            self.assertEqual(caught.exception.place, place)

    def test_limits(self):
        self.assertEqual(shape("a" * 8).first(), "a" * 8)
        self.assertEqual(shape("(((a)))").first(), "a")
        self.assertEqual(shape("(((a)))(((b)))").first(), "ab")
        self.assertEqual(shape("S*S*S*S*S*S*S*S*"), Stock.every(AB))
        cases = {"a" * 9: 8, "a|b|a|b|a|b|a|b|a": 16, "(aaaa)(aaaa)a": 12, "((((a))))": 3, "(((a)(b)((a))))": 9,
                 "aaaaaaaa(a)": 9, "aaaaaaaa|a": 9, "aaaaaaaa(": 9, "aaaaaaaa|": 9, "aaaaaaaa)": 8, "aaaaaaaax": 8,
                 "aaaaaaaa((((": 11}
        for written, place in cases.items():
            with self.subTest(shape=written), self.assertRaises(BadShape) as caught:
                shape(written)
            self.assertEqual(caught.exception.place, place)


class QuestionsTest(unittest.TestCase):
    def test_in(self):
        stock = shape("ab*")
        self.assertIs("abb" in stock, True)
        for text in ["", "b", "aba", "a?", "c", "A", "abab", "a b"]:
            self.assertIs(text in stock, False)

    def test_operators(self):
        rng = random.Random(6)
        texts = all_texts(AB, 3)
        for _ in range(60):
            one, other = random_stock(rng), random_stock(rng)
            kept = [one.rows, one.goods, other.rows, other.goods]
            kept = [list(map(str, each)) for each in kept]
            both, either, left = one & other, one | other, one - other
            for text in texts:
                self.assertEqual(text in both, text in one and text in other)
                self.assertEqual(text in either, text in one or text in other)
                self.assertEqual(text in left, text in one and text not in other)
            self.assertEqual(kept, [list(map(str, each)) for each in [one.rows, one.goods, other.rows, other.goods]])
            self.assertIs(bool(both), both.first() is not None)

    def test_first_and_texts(self):
        self.assertEqual(shape("b*(ab|ba-)").first(), "ab")
        self.assertEqual(shape("bb|b-|aaa").first(), "b-")
        self.assertEqual(Stock.every(AB).first(), "")
        self.assertIsNone(Stock.none(AB).first())
        self.assertTrue(inspect.isgenerator(Stock.every(AB).texts(1)))
        walk = Stock.every(Alphabet("abcd")).texts(60)
        self.assertEqual([next(walk) for _ in range(8)], ["", "-", "a", "b", "c", "d", "--", "-a"])
        self.assertEqual(next(counting_stock(AB, 60).texts(60)), "")
        self.assertEqual(next((counting_stock(AB, 60) - Stock.listed(AB, [""])).texts(60)), "-" * 60)
        self.assertEqual(list(Stock.every(AB).texts(2)), all_texts(AB, 2))
        self.assertEqual(list(shape("aaa").texts(2)), [])
        for most in [-1, -10 ** 39]:
            self.assertEqual(list(Stock.every(AB).texts(most)), [])
            self.assertEqual(Stock.every(AB).how_many(most), 0)

    def test_how_many(self):
        self.assertEqual(Stock.every(AB).how_many(0), 1)
        self.assertEqual(Stock.every(AB).how_many(60), sum(3 ** length for length in range(61)))
        self.assertEqual(Stock.none(AB).how_many(60), 0)
        self.assertEqual(shape("LLL").how_many(2), 0)
        self.assertEqual(shape("LLL").how_many(3), 8)

    def test_differing(self):
        self.assertEqual(differing(shape("a*"), shape("a*b?")), "b")
        self.assertEqual(differing(shape("a*b?"), shape("a*")), "b")
        self.assertIsNone(differing(shape("(a|b)*"), shape("(a*b*)*")))
        self.assertEqual(differing(Stock.none(AB), Stock.every(AB)), "")
        self.assertIsNone(differing(Stock.none(AB), Stock.none(AB)))

    def test_extent(self):
        self.assertEqual(Stock.none(AB).extent(), ("none",))
        self.assertEqual(Stock.listed(AB, [""]).extent(), ("most", 0))
        self.assertEqual(shape("a?b?|-").extent(), ("most", 2))
        self.assertEqual(Stock.listed(AB, ["a" * 60, "b"]).extent(), ("most", 60))
        for stock in [Stock.every(AB), shape("ba(a|bb)*-"), shape("a|bb*"), counting_stock(AB, 60), shape("-(ab)+|a"),
                      shape("(a-*b)*")]:
            word, one, two, three = stock.extent()
            self.assertEqual(word, "loop")
            self.assertNotEqual(two, "")
            for times in range(4):
                self.assertIn(one + two * times + three, stock)

    def test_random_questions(self):
        rng = random.Random(7)
        for _ in range(150):
            stock, other = random_stock(rng), random_stock(rng)
            listed = [text for text in all_texts(AB, 5) if text in stock]
            self.assertEqual(list(stock.texts(5)), listed)
            self.assertEqual(stock.how_many(5), len(listed))
            if listed:
                self.assertEqual(stock.first(), listed[0])
            unlike = [text for text in all_texts(AB, 5) if (text in stock) != (text in other)]
            if unlike:
                self.assertEqual(differing(stock, other), unlike[0])

    def test_mixed(self):
        mine, other = Stock.every(AB), Stock.every(OTHER)
        self.assertIs(mine == other, False)
        self.assertIs(mine != other, True)
        self.assertIs(mine == "ab", False)
        for deed in [lambda: mine & other, lambda: mine | other, lambda: mine - other, lambda: differing(mine, other)]:
            self.assertRaises(Mixed, deed)


if __name__ == "__main__":
    unittest.main()
