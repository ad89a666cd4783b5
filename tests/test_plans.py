"""Point 79: plans."""

import random
import unittest

from talepost.errors import BadText, NoPlan, TooMany, UnknownLetter
from talepost.ledgers import Ledger
from talepost.machines import Machine
from talepost.menus import Menu
from talepost.people import Person
from talepost.plans import depth, plan, stall
from talepost.posts import Post
from talepost.rules import Rule
from talepost.stations import Hearer, Hidden, Plain

from helpers import AB, Model, by_order, pairs, random_text


def answers(ledger, row, text):
    """For each world that is left the set of the answers, None included."""
    found = {world: set() for world in ledger.left()}
    for out, worlds in ledger.answers(row, text):
        for world in worlds:
            found[world].add(out)
    for world in ledger.silent(row, text):
        found[world].add(None)
    return found


def slow_depth(table, worlds, budget):
    """The least depth of a plan, tried with all budgets; or None. `table` has the answers for each text and world."""
    for most in range(budget + 1):
        if is_enough(table, worlds, most):
            return most
    return None


def is_enough(table, worlds, most):
    if len(worlds) == 1:
        return True
    if most == 0:
        return False
    for outs in table.values():
        parts = [tuple(world for world in worlds if answer in outs[world]) for answer in set().union(*[outs[world] for world in worlds])]
        if all(is_enough(table, part, most - 1) for part in parts):
            return True
    return False


class Checked(unittest.TestCase):
    def check_plan(self, ledger, row, texts, rows):
        """That the rows are a plan; returns its depth."""
        table = {text: answers(ledger, row, text) for text in texts}
        self.assertEqual(rows[0][0], ledger.left())
        children = []
        depths = [0] * len(rows)
        for number in range(len(rows) - 1, -1, -1):
            worlds, text, branches = rows[number]
            self.assertIsInstance(rows[number], tuple)
            self.assertEqual(worlds, sorted(worlds))
            if len(worlds) == 1:
                self.assertEqual([text, branches], [None, []])
                continue
            self.assertIn(text, texts)
            outs = table[text]
            possible = set().union(*[outs[world] for world in worlds])
            expected = sorted(possible - {None}, key=by_order) + ([None] if None in possible else [])
            self.assertEqual([answer for answer, _ in branches], expected)
            for answer, to in branches:
                self.assertGreater(to, number)
                self.assertEqual(rows[to][0], [world for world in worlds if answer in outs[world]])
                children.append(to)
                depths[number] = max(depths[number], depths[to] + 1)
        self.assertEqual(sorted(children), list(range(1, len(rows))))
        return depths[0]

    def check_stall(self, ledger, row, texts, rows, least):
        if least == 0:
            self.assertEqual(rows, [])
            return
        table = {text: answers(ledger, row, text) for text in texts}
        self.assertEqual(rows[0][:2], (ledger.left(), None if least is None else least - 1))
        for worlds, budget, replies in rows:
            self.assertGreaterEqual(len(worlds), 2)
            self.assertEqual(worlds, sorted(set(worlds)))
            self.assertLessEqual(set(worlds), set(ledger.left()))
            if budget == 0:
                self.assertEqual(replies, [])
                continue
            self.assertEqual(len(replies), len(texts))
            for text, (answer, to) in zip(texts, replies):
                for world in rows[to][0]:
                    self.assertIn(world, worlds)
                    self.assertIn(answer, table[text][world])
                if budget is None:
                    self.assertIsNone(rows[to][1])
                else:
                    self.assertGreaterEqual(rows[to][1], budget - 1)

    def check(self, ledger, row, *texts):
        """Check plan, depth and stall; returns the least depth or None."""
        table = {text: answers(ledger, row, text) for text in texts}
        least = slow_depth(table, tuple(ledger.left()), len(ledger.left()))
        self.check_stall(ledger, row, texts, stall(ledger, row, *texts), least)
        if least is None:
            self.assertRaises(NoPlan, plan, ledger, row, *texts)
            self.assertRaises(NoPlan, depth, ledger, row, *texts)
        else:
            self.assertEqual(depth(ledger, row, *texts), least)
            self.assertEqual(self.check_plan(ledger, row, texts, plan(ledger, row, *texts)), least)
        return least


class PlanTest(Checked):
    def test_random_posts(self):
        rng = random.Random(79)
        found = set()
        for _ in range(150):
            model = Model(rng, rng.choice([(2, 2), (3,), (5,), (4,), (2,)]))
            ledger = Ledger(model.post)
            row = rng.choice(["H", "AH", "HF", "HBH", "H", "H"]) + rng.choice(["", "", "XX"[:len(model.hidden) - 1]])
            texts = [random_text(rng, 2) for _ in range(rng.randint(0, 4))]
            found.add(self.check(ledger, row, *texts))
        self.assertLessEqual({None, 1, 2}, found)

    def test_depths(self):
        # Each text tells one world from the others; so a plan for five worlds needs four questions.
        machines = [pairs(*[(sign * at, "b" if at == world else "") for at in range(1, 5) for sign in "a"]) for world in range(1, 6)]
        ledger = Ledger(Post(AB, H=Hidden(machines)))
        texts = ["a" * at for at in range(1, 5)]
        self.assertEqual(self.check(ledger, "H", *texts), 4)
        self.assertEqual(self.check(ledger, "H", *texts[::-1], *texts), 4)
        self.assertIsNone(self.check(ledger, "H", *texts[1:]))
        ledger.see("H", "a", "")
        self.assertEqual(self.check(ledger, "H", *texts[1:]), 3)
        # One question with five answers.
        ledger = Ledger(Post(AB, H=Hidden([pairs(("a", "a" * at), ("b", "")) for at in range(5)])))
        self.assertEqual(self.check(ledger, "H", "a"), 1)
        self.assertEqual(self.check(ledger, "H", "b", "a", "b"), 1)
        self.assertEqual(plan(ledger, "H", "b", "a")[0][1], "a")

    def test_answers_that_several_worlds_can_give(self):
        # With the person on the way, a may come out in both worlds.
        menu = Menu.made(AB, "drop vowels", "once all", "add b")
        post = Post(AB, H=Hidden(menu.machines()), G=Hearer(Person(AB, "-ab", ["-", "ab", "b"])))
        ledger = Ledger(post)
        self.assertEqual(self.check(ledger, "H", "aab"), 1)
        self.assertEqual(self.check(ledger, "HG", "aab", "bb"), 1)
        self.assertIsNone(self.check(ledger, "GH", "a", "b"))
        self.assertEqual(self.check(ledger, "HG", "b", "bb", "aab"), 1)

    def test_no_plan(self):
        same = Hidden([Machine.identity(AB), Rule.read(AB, "keep").machine()])
        ledger = Ledger(Post(AB, H=same))
        self.assertIsNone(self.check(ledger, "H", "a", "ab"))
        self.assertEqual(stall(ledger, "H", "a", "ab"), [([(0,), (1,)], None, [("a", 0), ("ab", 0)])])
        # Without a question there is no plan either.
        self.assertIsNone(self.check(ledger, "H"))
        self.assertEqual(stall(ledger, "H"), [([(0,), (1,)], None, [])])
        self.assertIsNone(self.check(ledger, "", "a"))

    def test_silence(self):
        ledger = Ledger(Post(AB, H=Hidden([pairs(("a", "b")), pairs(("b", "b")), pairs(("-", "b"))])))
        self.assertEqual(self.check(ledger, "H", "a"), None)
        self.assertEqual(self.check(ledger, "H", "a", "b"), 2)
        rows = plan(ledger, "H", "a", "b")
        self.assertEqual(rows[0][2], [("b", 1), (None, 2)])

    def test_one_world_left(self):
        ledger = Ledger(Post(AB, H=Hidden([pairs(("a", "b")), pairs(("a", "a"))])))
        ledger.see("H", "a", "a")
        for texts in [[], ["a"], ["b", "b"]]:
            self.assertEqual(plan(ledger, "H", *texts), [([(1,)], None, [])])
            self.assertEqual([depth(ledger, "H", *texts), stall(ledger, "H", *texts)], [0, []])
        ledger = Ledger(Post(AB, P=Plain(AB)))
        self.assertEqual(plan(ledger, "P"), [([()], None, [])])
        self.assertEqual([depth(ledger, ""), stall(ledger, "")], [0, []])

    def test_the_limit_counts_for_row_0_only(self):
        ledger = Ledger(Post(AB, H=Hidden([pairs(("a", "a" * at), ("b", "b" * (at % 2))) for at in range(3)])), limit=1)
        ledger.see("H", "a", "aa")
        self.assertEqual(ledger.left(), [(0,), (1,), (2,)])
        self.assertEqual(self.check(ledger, "H", "b", "a"), 1)
        self.assertIsNone(self.check(ledger, "H", "b"))
        ledger.see("H", "a", "aa")
        self.assertEqual(self.check(ledger, "H", "b"), 0)

    def test_five_worlds_and_six(self):
        ledger = Ledger(Post(AB, H=Hidden([pairs(("a", "a" * at)) for at in range(6)])))
        for call in [plan, depth, stall]:
            with self.assertRaises(TooMany) as caught:
                call(ledger, "H", "a")
            self.assertEqual(caught.exception.most, 5)
        ledger = Ledger(Post(AB, H=Hidden([pairs(("a", "a" * at)) for at in range(7)])), limit=1)
        ledger.see("H", "a", "aa")
        self.assertRaises(TooMany, depth, ledger, "H", "a")
        ledger.change_limit(0)
        self.assertEqual(depth(ledger, "H", "a"), 0)

    def test_the_order_of_errors(self):
        six = Ledger(Post(AB, H=Hidden([pairs(("a", "a" * at)) for at in range(6)])))
        two = Ledger(Post(AB, H=Hidden([pairs(("a", "a"))] * 2)))
        for call in [plan, depth, stall]:
            with self.assertRaises(UnknownLetter) as caught:
                call(six, "HX", "?")
            self.assertEqual([caught.exception.letter, caught.exception.place], ["X", 1])
            with self.assertRaises(BadText) as caught:
                call(six, "H", "a", "?", "!")
            self.assertEqual(caught.exception.text, "?")
            self.assertRaises(TooMany, call, six, "H")
            self.assertRaises(BadText, call, two, "H", "x")

    def test_many_answers(self):
        # Nobody lists the answers of a plan that is not asked for.
        guess = Hearer(Person(AB, "-ab", ["-", "ab", "ab"]))
        post = Post(AB, G=guess, H=Hidden([Rule.read(AB, written).machine() for written in ["keep", "add -", "drop joints"]]))
        ledger = Ledger(post)
        text = "ab-" * 20
        self.assertEqual(depth(ledger, "GH", text), 1)
        self.assertEqual(stall(ledger, "GH", text), [([(0,), (1,), (2,)], 0, [])])
        # Of several plans of the least depth one with few answers is found.
        rows = plan(ledger, "GH", text, "-", "ab-", text)
        self.assertEqual([rows[0][1], len(rows)], ["-", 4])

    def test_the_ledger_stays_as_it_was(self):
        ledger = Ledger(Post(AB, H=Hidden([pairs(("a", "a" * at)) for at in range(3)])))
        rows = plan(ledger, "H", "a")
        rows[0][0].append("X")
        stall(ledger, "H", "a")[0][0].append("X")
        self.assertEqual([ledger.left(), ledger.entries()], [[(0,), (1,), (2,)], []])
        self.assertEqual(plan(ledger, "H", "a")[0][0], [(0,), (1,), (2,)])

    def test_rows_are_lists_of_their_own(self):
        ledger = Ledger(Post(AB, H=Hidden([pairs(("a", ""), ("b", "b")), pairs(("a", ""), ("b", ""))])))
        rows = plan(ledger, "H", "b")
        rows[0][0].clear()
        self.assertEqual([worlds for worlds, _, _ in rows], [[], [(1,)], [(0,)]])


if __name__ == "__main__":
    unittest.main()
