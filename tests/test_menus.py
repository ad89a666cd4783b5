"""Points 54 and 55: menus."""

import itertools
import random
import unittest

from talepost.errors import BadCount, BadMenu, BadStage, Mixed, TooMany, UnknownRule
from talepost.letters import Alphabet
from talepost.machines import Machine
from talepost.menus import Menu
from talepost.rules import Rule
from talepost.stages import Add, Once
from talepost.stocks import Stock

from helpers import AB, OTHER, all_texts, by_order, counting_stock, random_stock, shape

STAGES = ["drop vowels", "once all", "drop joints", "write a for joints", "add b", "drop all after 2 but last",
          "drop [a]", "once [ab]", "drop all after 1 each", "write b for [b]"]
MANY = [f"{kind} {name}" for kind in ["drop", "once", "write a for", "write b for"]
        for name in ["all", "letters", "vowels", "consonants", "joints", "[-]", "[a]", "[b]", "[-a]", "[-b]", "[ab]",
                     "[-ab]"]] + [f"drop all after {many}{each}{last}" for many in "123" for each in ["", " each"]
                                  for last in ["", " but last"]]


class MenuTest(unittest.TestCase):
    def test_made(self):
        menu = Menu.made(AB, "once all", "add a", depth=2)
        self.assertEqual(menu.written(), ["keep", "once all", "add a", "once all; once all", "once all; add a",
                                          "add a; once all", "add a; add a"])
        self.assertEqual(len(menu), 7)
        self.assertEqual([str(rule) for rule in menu.rules], menu.written())
        self.assertIsInstance(menu.rules, list)
        self.assertEqual(Menu.made(AB, "once all", "add a").written(), ["keep", "once all", "add a"])
        self.assertEqual(Menu.made(AB, "once all", "add a", depth=0).written(), ["keep"])
        self.assertEqual([Menu.made(AB, depth=depth).written() for depth in range(3)], [["keep"]] * 3)
        self.assertEqual(menu.alphabet, AB)
        self.assertEqual(Menu.MOST, 60)
        self.assertIsInstance(menu, Menu)

    def test_rules_are_kept_in_order(self):
        rules = [Rule.read(AB, "add b"), Rule(AB), Rule.read(AB, "add a; add a")]
        menu = Menu(rules)
        self.assertEqual(menu.rules, rules)
        rules.append(Rule.read(AB, "once all"))
        rules[0] = Rule.read(AB, "once all")
        self.assertEqual(menu.written(), ["add b", "keep", "add a; add a"])
        self.assertEqual([machine.outs("a") for machine in menu.machines()], [["ab"], ["a"], ["aaa"]])
        self.assertIsInstance(menu.machines()[0], Machine)
        menu.written().clear()
        menu.machines().clear()
        self.assertEqual([len(menu), len(menu.written()), len(menu.machines())], [3] * 3)

    def bad_menu(self, index, make):
        with self.assertRaises(BadMenu) as caught:
            make()
        self.assertEqual(caught.exception.index, index)

    def test_equal_rules(self):
        add, once = Rule(AB, Add(AB, "a")), Rule(AB, Once(AB, "all"))
        self.bad_menu(-1, lambda: Menu([]))
        self.bad_menu(1, lambda: Menu([add, add]))
        self.bad_menu(2, lambda: Menu([add, once, Rule.read(AB, "add a"), once]))
        self.bad_menu(3, lambda: Menu([add, once, add + once, once]))
        self.assertEqual(len(Menu([Rule.read(AB, "drop vowels"), Rule.read(AB, "drop [a]")])), 2)

    def test_sixty_rules_and_one_of_more(self):
        self.assertEqual(len(set(MANY)), 60)
        rules = [Rule.read(AB, written) for written in MANY]
        self.assertEqual(len(Menu(rules)), 60)
        for more in [[Rule(AB)], [Rule(AB), Rule.read(AB, "add a")]]:
            with self.assertRaises(TooMany) as caught:
                Menu(rules + more)
            self.assertEqual(caught.exception.most, 60)
        # An equal rule is reported first, wherever it stands.
        self.bad_menu(60, lambda: Menu(rules + rules))
        self.assertEqual(len(Menu.made(AB, *MANY[:59])), 60)
        for stages, depth in [(MANY, 1), (MANY[:8], 2), (MANY, 2)]:
            with self.assertRaises(TooMany) as caught:
                Menu.made(AB, *stages, depth=depth)
            self.assertEqual(caught.exception.most, 60)
        self.assertEqual(len(Menu.made(AB, *MANY[:7], depth=2)), 57)
        self.assertEqual(len(Menu.made(AB, *MANY, depth=0)), 1)

    def test_errors_of_made_in_order(self):
        for depth in [-1, 3, 10 ** 20]:
            with self.assertRaises(BadCount) as caught:
                Menu.made(AB, "?", depth=depth)
            self.assertEqual(caught.exception.count, depth)
        for depth in range(3):
            for stages, what in [(["?", "add x"], "text"), (["add a", "add a", "add x", "?"], "sign"), (["keep"], "text"),
                                 (["add a; add b"], "text"), ([*MANY, "once ?"], "set"), (["drop all after 0"], "after")]:
                with self.assertRaises(BadStage) as caught:
                    Menu.made(AB, *stages, depth=depth)
                self.assertEqual(caught.exception.what, what)
            self.bad_menu(2, lambda: Menu.made(AB, "add a", "once all", "add a", "once all", depth=depth))
            self.bad_menu(60, lambda: Menu.made(AB, *MANY, MANY[3], MANY[2], depth=depth))

    def test_mixed(self):
        menu = Menu.made(AB, "add a")
        self.assertRaises(Mixed, Menu, [Rule(AB), Rule(OTHER)])
        self.assertRaises(Mixed, Menu, [Rule(AB), Rule(AB), Rule(OTHER)])
        self.assertRaises(Mixed, menu.classes_on, Stock.every(OTHER))
        self.assertRaises(Mixed, menu.parted, 0, 9, Stock.every(OTHER))

    def test_methods_stand_in_the_class(self):
        listed = "made written machines classes_on parted __len__ __init__".split()
        self.assertLessEqual(set(listed), set(vars(Menu)))


class PartedTest(unittest.TestCase):
    def random_menu(self, rng):
        depth = rng.choice([1, 1, 2])
        return Menu.made(AB, *rng.sample(STAGES, rng.randint(2, 6 if depth == 1 else 3)), depth=depth)

    def check_parted(self, menu, one, two, stock, most=6):
        found = menu.parted(one, two, stock)
        rules = menu.rules
        expected = next((text for text in all_texts(AB, most) if text in stock and rules[one](text) != rules[two](text)), None)
        if expected is not None or found is None:
            self.assertEqual(found, expected)
        else:
            self.assertTrue(len(found) > most and found in stock and rules[one](found) != rules[two](found))
        return found

    def test_random_menus(self):
        rng = random.Random(54)
        several = 0
        for _ in range(12):
            menu = self.random_menu(rng)
            for stock in [Stock.every(AB), random_stock(rng), shape("a*b?J?"), counting_stock(AB, 3)]:
                classes = menu.classes_on(stock)
                self.assertEqual(sorted(each for part in classes for each in part), list(range(len(menu))))
                self.assertEqual(classes, sorted(sorted(part) for part in classes))
                number = {each: at for at, part in enumerate(classes) for each in part}
                for one, two in itertools.combinations(range(len(menu)), 2):
                    found = self.check_parted(menu, one, two, stock)
                    self.assertEqual(found is None, number[one] == number[two])
                    self.assertEqual(menu.parted(two, one, stock), found)
                several += 1 < len(classes) < len(menu)
        self.assertGreater(several, 10)

    def test_plain_cases(self):
        menu = Menu.made(AB, "drop vowels", "drop [a]", "once all", "add a")
        self.assertEqual(menu.classes_on(Stock.every(AB)), [[0], [1, 2], [3], [4]])
        self.assertEqual(menu.classes_on(shape("b|J|(bJ)+")), [[0, 1, 2, 3], [4]])
        self.assertEqual(menu.classes_on(Stock.none(AB)), [[0, 1, 2, 3, 4]])
        self.assertEqual(menu.classes_on(shape("b*")), [[0, 1, 2], [3], [4]])
        self.assertEqual([menu.parted(0, 1, Stock.every(AB)), menu.parted(0, 3, shape("L*")), menu.parted(3, 0, shape("b*")),
                          menu.parted(1, 2, Stock.every(AB)), menu.parted(2, 4, Stock.every(AB)), menu.parted(4, 4, shape("a"))],
                         ["a", "aa", "bb", None, "", None])
        self.assertEqual(Menu([Rule(AB)]).classes_on(Stock.every(AB)), [[0]])

    def test_rules_that_part_on_long_texts_only(self):
        four = Alphabet("abcd", "a")
        menu = Menu.made(four, "drop all after 3", "drop letters after 3", "once all")
        stock = Stock.shaped(four, "(abcd)*J") & counting_stock(four, 57)
        self.assertEqual(menu.parted(1, 2, stock), "abcd" * 14 + "-")
        self.assertEqual(menu.classes_on(stock), [[0, 3], [1], [2]])
        self.assertIsNone(menu.parted(0, 3, stock))
        self.assertEqual(menu.classes_on(Stock.listed(four, ["abc", "ab-"])), [[0, 1, 2, 3]])

    def test_all_rules_of_a_large_menu(self):
        menu = Menu.made(AB, *MANY[:59])
        texts = sorted(all_texts(AB, 6), key=by_order)
        results = {}
        for at, rule in enumerate(menu.rules):
            results.setdefault(tuple(rule(text) for text in texts), []).append(at)
        self.assertEqual(menu.classes_on(Stock.every(AB)), sorted(results.values()))

    def test_unknown_rules(self):
        menu = Menu.made(AB, "add a", "add b")
        for one, two, index in [(3, 9, 3), (0, 3, 3), (-1, 3, -1), (2, -1, -1), (-3, -2, -3), (10 ** 20, 0, 10 ** 20)]:
            with self.assertRaises(UnknownRule) as caught:
                menu.parted(one, two, Stock.none(AB))
            self.assertEqual(caught.exception.index, index)

    def test_stock_and_menu_stay(self):
        menu, stock = Menu.made(AB, "add a", "add b"), shape("a*")
        rows = [list(row) for row in stock.rows]
        menu.classes_on(stock).clear()
        menu.classes_on(stock)[0].clear()
        self.assertEqual(menu.classes_on(stock), [[0], [1], [2]])
        self.assertEqual([stock.rows, menu.written()], [rows, ["keep", "add a", "add b"]])


if __name__ == "__main__":
    unittest.main()
