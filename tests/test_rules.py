"""Points 52 and 53: rules."""

import itertools
import random
import unittest

from talepost.errors import BadRule, BadText, Mixed
from talepost.letters import Alphabet
from talepost.machines import Machine
from talepost.rules import Rule
from talepost.stages import Add, Drop, LastDrop, Once, Write, read_stage
from talepost.stocks import Stock
from talepost.sure import is_certain

from helpers import AB, OTHER, all_texts

STAGES = ["drop vowels", "drop all after 1 each but last", "drop joints", "write - for [b]", "once all", "add a",
          "drop letters after 2 each", "once joints", "write a for joints", "drop all after 3"]


class RuleTest(unittest.TestCase):
    def test_example(self):
        rule = Rule.read(Alphabet("nort", "o"), "drop vowels after 1 each; drop joints")
        self.assertEqual(rule.results("nor-ort"), ["nor-ort", "nr-ort", "nrort"])
        self.assertEqual(rule("nor-ort"), "nrort")
        self.assertEqual(len(rule), 2)

    def test_results_and_machines(self):
        rng = random.Random(52)
        for _ in range(40):
            written = [rng.choice(STAGES) for _ in range(rng.randint(0, 3))]
            stages = [read_stage(AB, each) for each in written]
            rule = Rule(AB, *stages)
            machine = rule.machine()
            for text in all_texts(AB, 3) + ["".join(rng.choice("-ab") for _ in range(20)) for _ in range(5)]:
                results = [text]
                for stage in stages:
                    results.append(stage(results[-1]))
                self.assertEqual(rule.results(text), results)
                self.assertEqual(rule(text), results[-1])
                self.assertEqual(machine.outs(text), [results[-1]], (written, text))
            self.assertIsInstance(machine, Machine)
            self.assertEqual(machine.domain(), Stock.every(AB))
            self.assertTrue(is_certain(machine))
            self.assertEqual(len(rule), len(stages))
            self.assertEqual(str(rule), "; ".join(written) or "keep")
            self.assertEqual(Rule.read(AB, str(rule)), rule)

    def test_rule_without_stages(self):
        rule = Rule(AB)
        self.assertEqual([len(rule), str(rule), rule("ab-"), rule.results("ab")], [0, "keep", "ab-", ["ab"]])
        self.assertEqual(rule.machine().outs("ab-"), ["ab-"])
        self.assertEqual(Rule.read(AB, "keep"), rule)
        self.assertEqual([rule.alphabet, Rule.MOST], [AB, 3])

    def test_three_and_four_stages(self):
        drop = Drop(AB, "all", after=1)
        self.assertEqual(len(Rule(AB, drop, drop, drop)), 3)
        for many in [4, 5]:
            with self.assertRaises(BadRule) as caught:
                Rule(AB, *[drop] * many)
            self.assertEqual([caught.exception.stage, caught.exception.what], [4, "count"])
        for one, two in [(1, 3), (3, 1), (2, 2), (3, 3)]:
            with self.assertRaises(BadRule) as caught:
                Rule(AB, *[drop] * one) + Rule(AB, *[drop] * two)
            self.assertEqual([caught.exception.stage, caught.exception.what], [4, "count"])

    def test_plus(self):
        add, once = Rule(AB, Add(AB, "a")), Rule(AB, Once(AB, "all"), Write(AB, "b", "joints"))
        both = add + once
        self.assertEqual(str(both), "add a; once all; write b for joints")
        self.assertEqual(str(once + add), "once all; write b for joints; add a")
        self.assertEqual(both.results("ba-"), ["ba-", "ba-a", "ba-a", "baba"])
        self.assertEqual([str(add), str(once)], ["add a", "once all; write b for joints"])
        self.assertEqual(add + Rule(AB), add)
        self.assertEqual(Rule(AB) + Rule(AB), Rule(AB))

    def test_equal(self):
        self.assertEqual(Rule(AB, Drop(AB, "all")), Rule.read(AB, "drop all"))
        self.assertNotEqual(Rule(AB, Drop(AB, "all")), Rule(AB, LastDrop(AB, "all")))
        # The same signs under two names are two written forms.
        self.assertNotEqual(Rule(AB, Drop(AB, "vowels")), Rule(AB, Drop(AB, "[a]")))
        self.assertNotEqual(Rule(AB), Rule(OTHER))
        self.assertFalse(Rule(AB) == "keep")
        self.assertFalse(Rule(AB, Add(AB, "a"), Once(AB, "all")) == Rule(AB, Once(AB, "all"), Add(AB, "a")))

    def test_what_is_returned_is_new(self):
        rule = Rule(AB, Add(AB, "a"))
        rule.results("b").clear()
        self.assertEqual(rule.results("b"), ["b", "ba"])

    def test_bad_texts(self):
        for rule in [Rule(AB), Rule(AB, Add(AB, "a"))]:
            for deed in [rule, rule.results]:
                with self.assertRaises(BadText) as caught:
                    deed("a?")
                self.assertEqual(caught.exception.text, "a?")

    def test_mixed(self):
        add, strange = Add(AB, "a"), Add(OTHER, "a")
        self.assertRaises(Mixed, Rule, AB, strange)
        self.assertRaises(Mixed, Rule, OTHER, add)
        self.assertRaises(Mixed, Rule, AB, add, add, add, add, strange)
        self.assertRaises(Mixed, lambda: Rule(AB, add) + Rule(OTHER, strange))
        self.assertRaises(Mixed, lambda: Rule(AB, add, add, add) + Rule(OTHER, strange))
        self.assertRaises(Mixed, lambda: Rule(AB) + Rule(OTHER))

    def test_methods_stand_in_the_class(self):
        listed = "read results machine __call__ __eq__ __add__ __len__ __str__ __init__".split()
        self.assertLessEqual(set(listed), set(vars(Rule)))


class ReadTest(unittest.TestCase):
    def refused(self, written, stage, what):
        with self.subTest(written=written), self.assertRaises(BadRule) as caught:
            Rule.read(AB, written)
        self.assertEqual([caught.exception.stage, caught.exception.what], [stage, what])

    def test_written_forms(self):
        for many in range(1, 4):
            for written in itertools.islice(itertools.product(STAGES, repeat=many), 0, None, 17):
                rule = Rule.read(AB, "; ".join(written))
                self.assertEqual([str(rule), len(rule)], ["; ".join(written), many])
                self.assertEqual(rule("ab--ba"), Rule(AB, *[read_stage(AB, each) for each in written])("ab--ba"))

    def test_pieces(self):
        self.refused("", 1, "text")
        self.refused("keep ", 1, "text")
        self.refused("; ", 1, "text")
        self.refused("add a; ", 2, "text")
        self.refused("; add a", 1, "text")
        self.refused("add a; ; add a", 2, "text")
        self.refused("keep; add a", 1, "text")
        self.refused("add a; keep", 2, "text")
        self.refused("keep; keep", 1, "text")
        self.refused("add a;add a", 1, "text")
        self.refused("add a;", 1, "sign")
        self.refused("add a;; add b", 1, "sign")
        self.refused("add a;  add b", 2, "text")
        self.refused("add a ; add b", 1, "text")
        self.refused("once all;", 1, "set")

    def test_the_first_wrong_piece(self):
        self.refused("add x; once ?", 1, "sign")
        self.refused("add a; once ?; drop all after 7", 2, "set")
        self.refused("add a; once all; drop all after 7", 3, "after")
        self.refused("add a; once all; drop all after each; add a", 3, "after")
        self.refused("add a; add a; add a; add a", 4, "count")
        self.refused("add a; add a; add a; ?", 4, "count")
        self.refused("add a; add a; add a; ", 4, "count")
        self.refused("add a; add a; add a; add a; add a", 4, "count")
        self.refused("add a; ?; add a; add a", 2, "text")
        self.refused("keep; keep; keep; keep", 1, "text")


if __name__ == "__main__":
    unittest.main()
