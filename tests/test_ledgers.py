"""Points 77 and 78: ledgers."""

import random
import unittest

from talepost.errors import BadCount, BadText, Mixed, NoWorld, UnknownEntry, UnknownLetter, UnknownWorld
from talepost.ledgers import Ledger
from talepost.machines import Machine
from talepost.menus import Menu
from talepost.people import Person
from talepost.posts import Post
from talepost.rules import Rule
from talepost.stations import Fixed, Hearer, Hidden, Plain
from talepost.stocks import Stock

from helpers import AB, OTHER, Model, all_texts, by_order, pairs, random_text, shape

EVERY = Stock.every(AB)
MENU = Menu.made(AB, "drop vowels", "once all")


def simple():
    """A post with the worlds (0,), (1,), (2,): keep, drop vowels, once all."""
    return Post(AB, A=Hidden(MENU.machines()), P=Plain(AB), S=Hearer(Person(AB, "-ba", ["-", "a", "b"])))


def state(ledger):
    return [ledger.entries(), ledger.left(), ledger.limit, ledger.many, len(ledger),
            [ledger.misses(world) for world in ledger._post.worlds()]]


class SlowLedger:
    """The entries and the limit, and all answers straight from what the rows say in each world."""

    def __init__(self, model, limit):
        self.model, self.limit, self.rows, self.next = model, limit, [], 0

    def misses(self, world, rows=None):
        return [number for number, row, text, out in (self.rows if rows is None else rows)
                if out not in self.model.outs(world, row, text)]

    def fewest(self, rows):
        return min(len(self.misses(world, rows)) for world in self.model.worlds)

    def left(self):
        return [world for world in self.model.worlds if len(self.misses(world)) <= self.limit]

    def see(self, row, text, out):
        rows = self.rows + [(self.next, row, text, out)]
        if self.fewest(rows) > self.limit:
            return NoWorld, self.fewest(rows)
        self.rows, self.next = rows, self.next + 1
        return None, self.next - 1


class EntriesTest(unittest.TestCase):
    def unchanged(self, ledger, error, call, *given, **named):
        before = state(ledger)
        with self.assertRaises(error) as caught:
            call(*given, **named)
        self.assertEqual(state(ledger), before)
        return caught.exception

    def test_random_ledgers(self):
        rng = random.Random(77)
        refused = 0
        for _ in range(40):
            model = Model(rng, rng.choice([(2, 2), (3, 2), (4,)]))
            limit = rng.randint(0, 2)
            ledger, slow = Ledger(model.post, limit=limit), SlowLedger(model, limit)
            for _ in range(12):
                if rng.random() < 0.2 and slow.rows:
                    number = rng.choice(slow.rows)[0]
                    self.assertIsNone(ledger.withdraw(number))
                    slow.rows = [row for row in slow.rows if row[0] != number]
                elif rng.random() < 0.2:
                    limit = rng.randint(0, 3)
                    if slow.fewest(slow.rows) > limit:
                        self.assertEqual(self.unchanged(ledger, NoWorld, ledger.change_limit, limit).fewest,
                                         slow.fewest(slow.rows))
                    else:
                        self.assertIsNone(ledger.change_limit(limit))
                        slow.limit = limit
                else:
                    row, text = model.random_row(rng), random_text(rng, 2)
                    outs = sorted(model.all_outs(row, text)) + [random_text(rng, 2)]
                    out = rng.choice(outs)
                    error, number = slow.see(row, text, out)
                    if error:
                        refused += 1
                        self.assertEqual(self.unchanged(ledger, error, ledger.see, row, text, out).fewest, number)
                    else:
                        self.assertEqual(ledger.see(row, text, out), number)
                self.assertEqual([ledger.entries(), ledger.left(), ledger.limit], [slow.rows, slow.left(), slow.limit])
                self.assertEqual([ledger.many, len(ledger)], [len(slow.left()), len(slow.rows)])
                for world in model.worlds:
                    self.assertEqual(ledger.misses(world), slow.misses(world))
        self.assertGreater(refused, 20)

    def test_numbers(self):
        ledger = Ledger(simple(), limit=2)
        self.assertEqual([ledger.see("A", "ab", "ab"), ledger.see("AP", "ab", "ab"), ledger.see("", "b", "b")], [0, 1, 2])
        self.assertEqual(ledger.entries(), [(0, "A", "ab", "ab"), (1, "AP", "ab", "ab"), (2, "", "b", "b")])
        self.assertIsNone(ledger.withdraw(2))
        self.assertIsNone(ledger.withdraw(0))
        # A number is never used again, not even that of the entry that was added last.
        self.assertEqual(ledger.see("A", "aa", "aa"), 3)
        self.assertEqual([number for number, _, _, _ in ledger.entries()], [1, 3])
        for number in [0, 2, 4, -1, 10 ** 39]:
            error = self.unchanged(ledger, UnknownEntry, ledger.withdraw, number)
            self.assertEqual(error.number, number)

    def test_an_entry_several_times(self):
        ledger = Ledger(simple(), limit=1)
        self.assertEqual([ledger.see("A", "ab", "b"), ledger.see("A", "ab", "b")], [0, 1])
        self.assertEqual([ledger.misses((0,)), ledger.misses((1,)), ledger.left()], [[0, 1], [], [(1,)]])
        ledger.withdraw(0)
        self.assertEqual([ledger.misses((0,)), ledger.left()], [[1], [(0,), (1,), (2,)]])

    def test_the_limit(self):
        ledger = Ledger(simple())
        self.assertEqual([ledger.limit, ledger.left(), ledger.many], [0, [(0,), (1,), (2,)], 3])
        ledger.see("A", "abb", "bb")
        self.assertEqual([ledger.left(), ledger.many], [[(1,)], 1])
        error = self.unchanged(ledger, NoWorld, ledger.see, "A", "abb", "abb")
        self.assertEqual(error.fewest, 1)
        ledger.limit = 1
        self.assertEqual([ledger.limit, ledger.left()], [1, [(0,), (1,), (2,)]])
        ledger.see("A", "abb", "abb")
        self.assertEqual(ledger.left(), [(0,), (1,)])
        self.assertEqual(self.unchanged(ledger, NoWorld, ledger.see, "A", "abb", "-").fewest, 2)
        ledger.limit = 2
        ledger.see("A", "abb", "-")
        for call in [ledger.change_limit, lambda limit: setattr(ledger, "limit", limit)]:
            self.assertEqual(self.unchanged(ledger, BadCount, call, -1).count, -1)
            self.assertEqual(self.unchanged(ledger, NoWorld, call, 1).fewest, 2)
            self.assertEqual(self.unchanged(ledger, NoWorld, call, 0).fewest, 2)
            self.assertIsNone(call(10 ** 39))
            call(2)
        self.assertEqual([ledger.limit, ledger.left()], [2, [(0,), (1,)]])

    def test_negative_limits(self):
        for limit in [-1, -10 ** 39]:
            with self.assertRaises(BadCount) as caught:
                Ledger(simple(), limit=limit)
            self.assertEqual(caught.exception.count, limit)
        self.assertEqual(Ledger(simple(), limit=0).limit, 0)
        self.assertRaises(TypeError, Ledger, simple(), 1)

    def test_no_world(self):
        ledger = Ledger(simple(), limit=1)
        ledger.see("A", "ab", "-")
        self.assertEqual(ledger.left(), [(0,), (1,), (2,)])
        error = self.unchanged(ledger, NoWorld, ledger.see, "A", "ab", "-")
        self.assertEqual(error.fewest, 2)
        self.assertEqual(ledger.see("A", "aab", "ab"), 1)
        self.assertEqual(ledger.left(), [(2,)])

    def test_the_order_of_errors(self):
        ledger = Ledger(simple())
        cases = [(("AX?", "?", "?"), UnknownLetter, "letter", "X"), (("A", "?", "!"), BadText, "text", "?"),
                 (("A", "a", "!"), BadText, "text", "!"), (("A", "a", "bb"), NoWorld, "fewest", 1)]
        for given, error, name, value in cases:
            self.assertEqual(getattr(self.unchanged(ledger, error, ledger.see, *given), name), value)
        self.assertEqual(self.unchanged(ledger, UnknownLetter, ledger.see, "AAx", "a", "a").place, 2)

    def test_misses_of_no_world(self):
        ledger = Ledger(simple())
        for world in [(), (3,), (-1,), (0, 0)]:
            with self.assertRaises(UnknownWorld) as caught:
                ledger.misses(world)
            self.assertEqual(caught.exception.world, world)
        self.assertEqual(Ledger(Post(AB, P=Plain(AB))).misses(()), [])

    def test_no_hidden_station(self):
        ledger = Ledger(Post(AB, P=Plain(AB)))
        self.assertEqual([ledger.left(), ledger.many], [[()], 1])
        self.assertEqual(ledger.see("P", "ab", "ab"), 0)
        self.assertEqual(self.unchanged(ledger, NoWorld, ledger.see, "P", "ab", "a").fewest, 1)

    def test_later_changes_of_the_post(self):
        post = simple()
        ledger = Ledger(post)
        post.leave("A")
        post["P"] = Fixed(pairs(("a", "b")))
        self.assertEqual([ledger.see("AP", "ab", "b"), ledger.left()], [0, [(1,)]])
        self.assertEqual([ledger.through("P").outs("a"), post.members()], [["a"], ["P", "S"]])

    def test_twin(self):
        ledger = Ledger(simple(), limit=1)
        ledger.see("A", "abb", "bb")
        ledger.see("A", "abb", "abb")
        ledger.withdraw(1)
        twin = ledger.twin()
        self.assertIsInstance(twin, Ledger)
        self.assertEqual(state(twin), state(ledger))
        self.assertEqual([twin.see("A", "a", "a"), twin.limit], [2, 1])
        twin.withdraw(0)
        twin.change_limit(5)
        self.assertEqual([ledger.entries(), ledger.limit], [[(0, "A", "abb", "bb")], 1])
        self.assertEqual(ledger.see("A", "b", "b"), 2)
        self.assertEqual(twin.entries(), [(2, "A", "a", "a")])
        ledger.see("A", "bb", "bb")
        self.assertEqual([len(ledger), len(twin), ledger.twin().see("", "", "")], [3, 1, 4])

    def test_returned_lists_are_new(self):
        ledger = Ledger(simple())
        ledger.see("A", "abb", "bb")
        before = state(ledger)
        for returned in [ledger.entries(), ledger.left(), ledger.misses((0,)), ledger.machines_left("A"),
                         ledger.answers("A", "a"), ledger.answers("A", "a")[0][1], ledger.silent("A", "a")]:
            returned.append("X")
        self.assertEqual(state(ledger), before)
        self.assertEqual(ledger.answers("A", "a"), [("", [(1,)])])

    def test_methods_stand_in_the_class(self):
        listed = """__init__ __len__ see withdraw change_limit entries left misses twin machines_left through answers silent sure
        unsure verdict limit many""".split()
        self.assertLessEqual(set(listed), set(vars(Ledger)))
        self.assertEqual(Ledger(simple()).alphabet, AB)
        with self.assertRaises(AttributeError):
            Ledger(simple()).many = 3


def some_ledger(rng, model):
    """A ledger with some entries, so that some worlds are out."""
    ledger = Ledger(model.post, limit=rng.choice([0, 0, 1]))
    for _ in range(rng.randint(0, 3)):
        row, text = model.random_row(rng), random_text(rng, 2)
        outs = sorted(model.all_outs(row, text)) + [random_text(rng, 2)]
        try:
            ledger.see(row, text, rng.choice(outs))
        except NoWorld:
            pass
    return ledger


class QuestionsTest(unittest.TestCase):
    def test_random_ledgers(self):
        rng = random.Random(78)
        many = set()
        verdicts = set()
        for _ in range(60):
            model = Model(rng, rng.choice([(2, 2), (3, 2), (4,), ()]))
            ledger = some_ledger(rng, model) if model.hidden else Ledger(model.post)
            left = ledger.left()
            many.add(len(left) < len(model.worlds))
            letters = "".join(model.post.members()) + "HX"[:len(model.hidden)]
            for _ in range(3):
                row = "".join(rng.choice(letters) for _ in range(rng.randint(0, 3)))
                text, other = random_text(rng, 2), random_text(rng, 2)
                outs = {world: model.outs(world, row, text) for world in left}
                every = sorted(set().union(*outs.values()), key=by_order)
                self.assertEqual(ledger.through(row).outs(text), every)
                self.assertEqual(ledger.answers(row, text), [(out, [world for world in left if out in outs[world]])
                                                             for out in every])
                self.assertEqual(ledger.silent(row, text), [world for world in left if not outs[world]])
                sure = all(len(outs[world]) == 1 for world in left) and len(every) == 1
                self.assertEqual(ledger.sure(row, text), every[0] if sure else None)
                for two in [text, other]:
                    common = [bool(outs[world] & model.outs(world, row, two)) for world in left]
                    verdict = "always" if all(common) else "sometimes" if any(common) else "never"
                    self.assertEqual(ledger.verdict(row, text, two), verdict)
                    verdicts.add(verdict)
        self.assertEqual([many, verdicts], [{True, False}, {"always", "sometimes", "never"}])

    def test_unsure_by_brute_force(self):
        rng = random.Random(781)
        found = set()
        for _ in range(80):
            model = Model(rng, rng.choice([(2, 2), (3,), ()]))
            ledger = some_ledger(rng, model) if model.hidden else Ledger(model.post)
            row = rng.choice(["", "P", "F", "G", "H", "HF", "HH"] if model.hidden else ["", "F", "PG", "A"])
            texts = sorted({random_text(rng, 2) for _ in range(rng.randint(0, 4))}, key=by_order)
            unsure = [text for text in texts if ledger.sure(row, text) is None]
            self.assertEqual(ledger.unsure(row, Stock.listed(AB, texts)), unsure[0] if unsure else None)
            found.add(bool(unsure))
        self.assertEqual(found, {True, False})

    def test_unsure_of_all_texts(self):
        ledger = Ledger(simple())
        self.assertEqual(ledger.unsure("A", EVERY), "a")
        self.assertIsNone(ledger.unsure("A", shape("(bJ)*b")))
        self.assertEqual(ledger.unsure("A", shape("bbb*")), "bb")
        self.assertIsNone(ledger.unsure("", EVERY))
        ledger.see("A", "bb", "bb")
        self.assertIsNone(ledger.unsure("A", shape("b*")))
        self.assertEqual(ledger.unsure("SA", shape("a*b?")), "b")
        ledger.see("A", "a", "a")
        self.assertIsNone(ledger.unsure("SASA", EVERY))
        # A text for which nothing is said in one of the worlds is not sure.
        post = Post(AB, H=Hidden([Machine.identity(AB), Machine.identity(AB).on(shape("S?S?"))]))
        self.assertEqual(Ledger(post).unsure("H", EVERY), "---")
        self.assertEqual(Ledger(post).unsure("H", shape("(ab)*")), "abab")
        self.assertIsNone(Ledger(post).unsure("H", Stock.none(AB)))

    def test_a_text_that_nothing_comes_out_of(self):
        post = Post(AB, H=Hidden([pairs(("a", "b"), ("b", "b")), pairs(("a", "b")), pairs(("-", "-"))]))
        ledger = Ledger(post)
        self.assertEqual(ledger.answers("H", "b"), [("b", [(0,)])])
        self.assertEqual(ledger.silent("H", "b"), [(1,), (2,)])
        self.assertIsNone(ledger.sure("H", "b"))
        self.assertIsNone(ledger.sure("H", "ab"))
        self.assertEqual([ledger.answers("H", "ab"), ledger.silent("H", "ab")], [[], [(0,), (1,), (2,)]])
        self.assertEqual(ledger.verdict("H", "a", "b"), "sometimes")
        self.assertEqual(ledger.verdict("H", "a", "-"), "never")
        self.assertEqual(ledger.verdict("H", "ab", "ab"), "never")
        self.assertEqual(ledger.verdict("H", "a", "a"), "sometimes")
        ledger.see("H", "a", "b")
        self.assertEqual([ledger.verdict("H", "a", "a"), ledger.sure("H", "a"), ledger.silent("H", "a")], ["always", "b", []])
        self.assertEqual(ledger.unsure("H", Stock.listed(AB, ["a", "b"])), "b")

    def test_each_world_is_judged_by_itself(self):
        turn = Hidden([pairs(("a", "b"), ("b", "a")), pairs(("a", "a"), ("b", "b"))])
        ledger = Ledger(Post(AB, A=turn))
        # In no world does the same come out of both, though a may come out of each.
        self.assertEqual(ledger.verdict("A", "a", "b"), "never")
        self.assertEqual(ledger.answers("A", "a"), [("a", [(1,)]), ("b", [(0,)])])
        self.assertEqual([ledger.sure("A", "a"), ledger.sure("AA", "a")], [None, "a"])

    def test_machines_left(self):
        post = Post(AB, B=Hidden([pairs(("a", "a" * at)) for at in range(4)]), A=Hidden([pairs(("a", "a")), pairs(("b", "a"))]),
                    P=Plain(AB))
        ledger = Ledger(post, limit=1)
        self.assertEqual([ledger.machines_left("A"), ledger.machines_left("B")], [[0, 1], [0, 1, 2, 3]])
        ledger.see("B", "a", "aa")
        ledger.see("A", "b", "a")
        self.assertEqual([ledger.machines_left("A"), ledger.machines_left("B")], [[0, 1], [0, 1, 2, 3]])
        ledger.see("B", "a", "aa")
        self.assertEqual([ledger.left(), ledger.machines_left("A"), ledger.machines_left("B")], [[(0, 2), (1, 2)], [0, 1], [2]])
        for letter in ["P", "C", "", "AB", "a"]:
            with self.assertRaises(UnknownLetter) as caught:
                ledger.machines_left(letter)
            self.assertEqual([caught.exception.letter, caught.exception.place], [letter, 0])

    def test_worlds_that_are_not_a_product(self):
        post = Post(AB, A=Hidden([pairs(("a", "a")), pairs(("a", "b"))]), B=Hidden([pairs(("a", "b"), ("b", "a")),
                                                                                     pairs(("a", "a"), ("b", "b"))]))
        ledger = Ledger(post)
        ledger.see("AB", "a", "b")
        self.assertEqual(ledger.left(), [(0, 0), (1, 1)])
        self.assertEqual([ledger.through("AB").outs("a"), ledger.through("ABB").outs("a")], [["b"], ["a", "b"]])
        self.assertEqual(ledger.sure("AB", "a"), "b")

    def test_many_outs(self):
        guess = Hearer(Person(AB, "-ab", ["-", "ab", "ab"]))
        post = Post(AB, G=guess, H=Hidden([Rule.read(AB, written).machine() for written in ["keep", "add a"]]))
        ledger = Ledger(post)
        text = "ab" * 30
        self.assertEqual(ledger.see("GH", text, "ba" * 30), 0)
        self.assertEqual(ledger.left(), [(0,)])
        self.assertIsNone(ledger.sure("GH", text))
        self.assertEqual(ledger.verdict("GHG", text, "a" * 60), "always")
        self.assertEqual(ledger.verdict("GHG", text, "a" * 59), "never")

    def test_errors(self):
        ledger = Ledger(simple())
        calls = [lambda row: ledger.through(row), lambda row: ledger.answers(row, "?"), lambda row: ledger.silent(row, "?"),
                 lambda row: ledger.sure(row, "?"), lambda row: ledger.unsure(row, EVERY), lambda row: ledger.verdict(row, "?", "!")]
        for call in calls:
            with self.assertRaises(UnknownLetter) as caught:
                call("AX")
            self.assertEqual([caught.exception.letter, caught.exception.place], ["X", 1])
        for call in calls[1:4]:
            with self.assertRaises(BadText) as caught:
                call("A")
            self.assertEqual(caught.exception.text, "?")
        for texts, first in [(("?", "!"), "?"), (("a", "!"), "!"), (("?", "a"), "?")]:
            with self.assertRaises(BadText) as caught:
                ledger.verdict("A", *texts)
            self.assertEqual(caught.exception.text, first)
        self.assertRaises(Mixed, ledger.unsure, "X", Stock.every(OTHER))

    def test_later_changes_of_the_ledger(self):
        ledger = Ledger(simple())
        machine = ledger.through("A")
        ledger.see("A", "abb", "bb")
        self.assertEqual([machine.outs("abb"), ledger.through("A").outs("abb")], [["ab", "bb", "abb"], ["bb"]])
        self.assertEqual([all_texts(AB, 0), ledger.answers("", "a")], [[""], [("a", [(1,)])]])


if __name__ == "__main__":
    unittest.main()
