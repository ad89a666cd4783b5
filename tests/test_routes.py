"""Points 80 to 83: routes."""

import random
import unittest

from talepost.errors import BadCount, BadIndex, BadText, Melted, Mixed, NothingToRedo, NothingToUndo, NoWorld, Refused
from talepost.errors import TaleError, TooLong, UnknownEntry, UnknownLetter
from talepost.ledgers import Ledger
from talepost.machines import Machine
from talepost.people import Person
from talepost.posts import Post
from talepost.routes import ROUTE_LIMIT, Route, attempt
from talepost.rules import Rule
from talepost.stations import Fixed, Hearer, Hidden, Plain
from talepost.stocks import Stock
from talepost.sure import melted

from helpers import AB, OTHER, Model, all_texts, by_order, least_pair, pairs, random_text, shape

SWAP = Hearer(Person(AB, "-ba", ["-", "a", "b"]))
LOSE = Hearer(Person(AB, "-aa", ["-", "a", "b"]))


def rule(written):
    return Fixed(Rule.read(AB, written).machine())


def simple(stock="(a|b)*", limit=ROUTE_LIMIT):
    """In the first world H says what it is told; in the second one it turns a and b; in the third one it drops a."""
    post = Post(AB, S=SWAP, L=LOSE, P=Plain(AB), J=rule("drop joints"), B=rule("add b"),
                H=Hidden([Machine.identity(AB), SWAP.machine(), Rule.read(AB, "drop [a]").machine()]))
    return Route(Ledger(post), shape(stock), limit=limit)


def state(route):
    ledger = route.ledger()
    return [route.row, len(route), ledger.entries(), ledger.left(), route.limit, route.past, route.future]


def history(route):
    """All states that undo and redo lead to."""
    twin = route.twin()
    states = [state(twin)]
    while twin.past:
        twin.undo()
        states.append(state(twin))
    while twin.future:
        twin.redo()
        states.append(state(twin))
    return states


class RouteTest(unittest.TestCase):
    def unchanged(self, route, error, call, *given):
        before = history(route)
        with self.assertRaises(error) as caught:
            call(*given)
        self.assertEqual(history(route), before)
        return caught.exception


class StateTest(RouteTest):
    def test_new_routes(self):
        self.assertEqual(ROUTE_LIMIT, 8)
        route = simple()
        self.assertEqual(state(route), ["", 0, [], [(0,), (1,), (2,)], 8, 0, 0])
        self.assertEqual(route.alphabet, AB)
        self.assertEqual(route.outs("ab"), ["ab"])
        for limit in [0, 12]:
            self.assertEqual(simple(limit=limit).limit, limit)
        for limit in [-1, 13, 10 ** 39]:
            with self.assertRaises(BadCount) as caught:
                simple(limit=limit)
            self.assertEqual(caught.exception.count, limit)
        self.assertRaises(Mixed, Route, Ledger(Post(AB)), Stock.every(OTHER))
        self.assertRaises(Mixed, Route, Ledger(Post(AB)), Stock.every(OTHER), limit=99)
        self.assertRaises(TypeError, Route, Ledger(Post(AB)), Stock.every(AB), 3)

    def test_it_works_on_a_twin(self):
        post = Post(AB, H=Hidden([Machine.identity(AB), SWAP.machine()]))
        ledger = Ledger(post)
        route = Route(ledger, Stock.listed(AB, ["a", "aa"]))
        route.add("H")
        ledger.see("H", "a", "b")
        post.leave("H")
        self.assertEqual([route.ledger().left(), route.outs("a")], [[(0,), (1,)], ["a", "b"]])
        route.see("H", "a", "a")
        self.assertEqual([ledger.left(), route.outs("a"), len(ledger)], [[(1,)], ["a"], 1])
        # What is returned is a twin, too.
        twin = route.ledger()
        twin.withdraw(0)
        self.assertEqual([len(route.ledger()), route.outs("a")], [1, ["a"]])

    def test_the_limits_are_two(self):
        ledger = Ledger(Post(AB, P=Plain(AB)), limit=3)
        route = Route(ledger, Stock.every(AB), limit=2)
        route.change_limit(1)
        self.assertEqual([route.limit, route.ledger().limit, ledger.limit], [1, 3, 3])

    def test_machine_and_outs(self):
        rng = random.Random(80)
        for _ in range(30):
            model = Model(rng, rng.choice([(2, 2), (3,), ()]))
            route = Route(Ledger(model.post), Stock.listed(AB, [random_text(rng, 2)]))
            for _ in range(4):
                route.add(rng.choice(model.post.members()))
            left = route.ledger().left()
            for text in [random_text(rng, 2) for _ in range(3)]:
                expected = sorted(model.all_outs(route.row, text, left), key=by_order)
                self.assertEqual([route.outs(text), route.machine().outs(text)], [expected, expected])

    def test_told_back(self):
        rng = random.Random(801)
        found = 0
        for _ in range(60):
            model = Model(rng, rng.choice([(2,), (1, 2), ()]))
            texts = sorted({random_text(rng, 2) for _ in range(3)}, key=by_order)
            route = Route(Ledger(model.post), Stock.listed(AB, texts))
            for _ in range(3):
                try:
                    route.add(rng.choice(model.post.members()))
                except Melted:
                    pass
            outs = {text: model.all_outs(route.row, text) for text in texts}
            self.assertIsNone(least_pair(outs))
            for out in set().union(*outs.values()) | {random_text(rng, 3)}:
                expected = [text for text in texts if out in outs[text]] + [None]
                self.assertEqual(route.told_back(out), expected[0])
                found += expected[0] is not None
        self.assertGreater(found, 50)

    def test_told_back_of_all_texts(self):
        route = simple("a*")
        route += "BBS"
        self.assertEqual([route.told_back("bbaa"), route.told_back("aa"), route.told_back("bbaaa"), route.told_back("")],
                         ["aa", "", None, None])
        for call in [route.outs, route.told_back]:
            for text in ["x", "a?"]:
                self.assertEqual(self.unchanged(route, BadText, call, text).text, text)

    def test_the_properties_cannot_be_assigned(self):
        route = simple()
        for name in ["row", "past", "future"]:
            with self.assertRaises(AttributeError):
                setattr(route, name, 0)

    def test_methods_stand_in_the_class(self):
        listed = """__init__ __len__ __iadd__ machine ledger outs told_back add insert take swap see withdraw change_limit undo redo
        twin row past future limit""".split()
        self.assertLessEqual(set(listed), set(vars(Route)))


class DeedTest(RouteTest):
    def test_add(self):
        route = simple()
        self.assertIsNone(route.add("S"))
        self.assertIsNone(route.add("P"))
        self.assertEqual([route.row, len(route), route.past], ["SP", 2, 2])
        for letter in ["X", "", "SP", "s", "?"]:
            error = self.unchanged(route, UnknownLetter, route.add, letter)
            self.assertEqual([error.letter, error.place], [letter, 0])
        error = self.unchanged(route, Melted, route.add, "L")
        self.assertEqual([error.out, error.one, error.other], ["a", "a", "b"])

    def test_insert(self):
        route = simple()
        for at, letter, row in [(0, "S", "S"), (0, "P", "PS"), (2, "B", "PSB"), (1, "B", "PBSB")]:
            self.assertIsNone(route.insert(at, letter))
            self.assertEqual(route.row, row)
        for at in [-1, 5, 10 ** 39]:
            self.assertEqual(self.unchanged(route, BadIndex, route.insert, at, "X").at, at)
        self.assertEqual(self.unchanged(route, UnknownLetter, route.insert, 1, "X").place, 0)
        error = self.unchanged(route, Melted, route.insert, 4, "L")
        self.assertEqual([error.out, error.one, error.other], ["aaa", "a", "b"])

    def test_take_and_swap(self):
        route = simple()
        route += "SPBJ"
        self.assertIsNone(route.swap(0))
        self.assertEqual(route.row, "PSBJ")
        self.assertIsNone(route.swap(2))
        self.assertEqual(route.row, "PSJB")
        self.assertIsNone(route.take(3))
        self.assertIsNone(route.take(0))
        self.assertEqual(route.row, "SJ")
        for call, wrong in [(route.take, [-1, 2, 3, -2, 10 ** 39]), (route.swap, [-1, 1, 2, -2])]:
            for at in wrong:
                self.assertEqual(self.unchanged(route, BadIndex, call, at).at, at)
        for empty in [simple().take, simple().swap]:
            self.assertRaises(BadIndex, empty, 0)
        single = simple()
        single.add("S")
        self.assertEqual(self.unchanged(single, BadIndex, single.swap, 0).at, 0)

    def test_a_take_and_a_swap_that_would_let_texts_melt(self):
        # T turns joints into a, and back; Z loses joints.
        turn = Hearer(Person(AB, "a-b", ["-", "a", "b"]))
        post = Post(AB, T=turn, Z=rule("drop joints"))
        route = Route(Ledger(post), shape("J*"))
        route += "TZ"
        error = self.unchanged(route, Melted, route.take, 0)
        self.assertEqual([error.out, error.one, error.other], ["", "", "-"])
        error = self.unchanged(route, Melted, route.swap, 0)
        self.assertEqual([error.out, error.one, error.other], ["", "", "-"])
        self.assertEqual(self.unchanged(route, Melted, route.insert, 1, "T").one, "")
        self.assertEqual(self.unchanged(route, Melted, route.insert, 0, "Z").other, "-")

    def test_see_and_withdraw(self):
        route = simple("a*|b")
        self.assertEqual(self.unchanged(route, Melted, route.add, "H").out, "")
        self.assertEqual(route.see("H", "a", "a"), 0)
        self.assertIsNone(route.add("H"))
        self.assertEqual([route.row, route.ledger().left(), route.past], ["H", [(0,)], 2])
        # Without the entry more worlds are left, and texts would melt.
        error = self.unchanged(route, Melted, route.withdraw, 0)
        self.assertEqual([error.out, error.one, error.other], ["", "", "a"])
        self.assertEqual(route.see("H", "b", "b"), 1)
        self.assertIsNone(route.withdraw(1))
        self.assertEqual(self.unchanged(route, UnknownEntry, route.withdraw, 1).number, 1)
        self.assertEqual(self.unchanged(route, UnknownLetter, route.see, "HX", "?", "?").place, 1)
        self.assertEqual(self.unchanged(route, BadText, route.see, "H", "?", "!").text, "?")
        self.assertEqual(self.unchanged(route, BadText, route.see, "H", "a", "!").text, "!")
        self.assertEqual(self.unchanged(route, NoWorld, route.see, "H", "a", "b").fewest, 1)

    def test_the_limit(self):
        route = simple(limit=2)
        route += "SP"
        for call in [lambda: route.add("S"), lambda: route.insert(0, "S"), lambda: route.insert(2, "L")]:
            self.assertEqual(self.unchanged(route, TooLong, call).limit, 2)
        # An unknown letter comes before a row that is too long, and that before texts that melt.
        self.assertRaises(UnknownLetter, route.add, "X")
        self.assertRaises(TooLong, route.add, "L")
        self.assertRaises(BadIndex, route.insert, 3, "X")
        for set_limit in [route.change_limit, lambda limit: setattr(route, "limit", limit)]:
            for limit in [-1, 13]:
                self.assertEqual(self.unchanged(route, BadCount, set_limit, limit).count, limit)
            for limit in [0, 1]:
                self.assertEqual(self.unchanged(route, TooLong, set_limit, limit).limit, limit)
            self.assertIsNone(set_limit(3))
            self.assertEqual([route.limit, route.past], [3, 1])
            set_limit(2)
        route.limit = 12
        route += "S" * 10
        self.assertEqual(len(route), 12)
        self.assertRaises(TooLong, route.add, "P")
        self.assertRaises(TooLong, simple(limit=0).add, "P")

    def test_add_several(self):
        route = simple()
        same = route
        route += "SPS"
        self.assertIs(route, same)
        self.assertEqual([route.row, route.past], ["SPS", 1])
        route.undo()
        self.assertEqual([route.row, route.past, route.future], ["", 0, 1])
        # The empty string is no change.
        route += ""
        self.assertEqual([route.past, route.future], [0, 1])
        route.redo()
        self.assertEqual([route.row, route.past, route.future], ["SPS", 1, 0])

    def add_all(self, route, letters):
        route += letters

    def test_add_several_that_are_refused(self):
        route = simple(limit=4)
        route += "S"
        route.add("P")
        route.undo()
        for letters, error, name, value in [("PXL", UnknownLetter, "letter", "X"), ("PLX", Melted, "out", "a"),
                                            ("PPPP", TooLong, "limit", 4), ("PPPX", UnknownLetter, "place", 0),
                                            ("PPPL", TooLong, "limit", 4), ("PP?", UnknownLetter, "letter", "?")]:
            caught = self.unchanged(route, error, self.add_all, route, letters)
            self.assertEqual(getattr(caught, name), value)
        self.assertEqual([route.row, route.past, route.future], ["S", 1, 1])

    def test_texts_melt_with_the_letters_up_to_one(self):
        # D loses joints; behind D, W writes nothing that would make it better, though the whole row is short.
        post = Post(AB, D=rule("drop joints"), N=Fixed(Machine(AB, [[]], [False])))
        route = Route(Ledger(post), shape("J*"))
        # Nothing is said for any text, so nothing melts behind N; but it melts before N.
        error = self.unchanged(route, Melted, self.add_all, route, "DN")
        self.assertEqual([error.out, error.one, error.other], ["", "", "-"])
        route += "ND"
        self.assertEqual([route.row, route.outs("-")], ["ND", []])

    def test_random_deeds_melt_just_if_texts_melt(self):
        rng = random.Random(81)
        refused = done = 0
        for _ in range(120):
            model = Model(rng, rng.choice([(2,), (1, 2), ()]))
            texts = sorted({"a", "b"} | {random_text(rng, 2) for _ in range(4)}, key=by_order)
            route = Route(Ledger(model.post), Stock.listed(AB, texts), limit=3)
            for _ in range(6):
                row = route.row
                kind, at, letter = rng.choice("aaits"), rng.randint(0, 3), rng.choice(model.post.members())
                if kind in "ai" and len(row) < 3 and at <= len(row):
                    call, given = (route.insert, (at, letter))
                    after = row[:at] + letter + row[at:]
                elif kind == "t" and at < len(row):
                    call, given, after = route.take, (at,), row[:at] + row[at + 1:]
                elif kind == "s" and at + 1 < len(row):
                    call, given, after = route.swap, (at,), row[:at] + row[at + 1] + row[at] + row[at + 2:]
                else:
                    continue
                pair = least_pair({text: model.all_outs(after, text) for text in texts})
                if pair is None:
                    call(*given)
                    self.assertEqual(route.row, after)
                    done += 1
                else:
                    error = self.unchanged(route, Melted, call, *given)
                    self.assertEqual((error.out, error.one, error.other), pair)
                    refused += 1
        self.assertGreater(min(refused, done), 20)


class HistoryTest(RouteTest):
    def test_undo_and_redo(self):
        route = simple()
        self.unchanged(route, NothingToUndo, route.undo)
        self.unchanged(route, NothingToRedo, route.redo)
        route.add("S")
        route.insert(0, "P")
        route.swap(0)
        route.take(1)
        rows = ["", "S", "PS", "SP", "S"]
        for at in [3, 2, 1, 0]:
            self.assertIsNone(route.undo())
            self.assertEqual([route.row, route.past, route.future], [rows[at], at, 4 - at])
        self.unchanged(route, NothingToUndo, route.undo)
        for at in [1, 2, 3, 4]:
            self.assertIsNone(route.redo())
            self.assertEqual([route.row, route.past, route.future], [rows[at], at, 4 - at])
        self.unchanged(route, NothingToRedo, route.redo)

    def test_a_change_that_leaves_the_row_as_it_was(self):
        route = simple()
        route += "SS"
        route.swap(0)
        self.assertEqual([route.row, route.past], ["SS", 2])
        route.undo()
        self.assertEqual([route.row, route.past, route.future], ["SS", 1, 1])

    def test_a_new_change_discards_what_was_taken_back(self):
        for change in [lambda route: route.add("P"), lambda route: route.see("P", "", ""), lambda route: route.swap(0),
                       lambda route: route.take(0), lambda route: route.insert(0, "P"), lambda route: self.add_all(route, "P")]:
            route = simple()
            route += "SP"
            route.add("S")
            route.undo()
            change(route)
            self.assertEqual([route.past, route.future], [2, 0])
            self.unchanged(route, NothingToRedo, route.redo)

    def add_all(self, route, letters):
        route += letters

    def test_a_refused_deed_keeps_the_history(self):
        route = simple()
        route += "SP"
        route.undo()
        self.unchanged(route, Melted, route.add, "L")
        self.unchanged(route, UnknownLetter, route.add, "X")
        self.assertEqual([route.past, route.future], [0, 1])

    def test_entries(self):
        route = simple("a*|b")
        self.assertEqual(route.see("H", "a", "a"), 0)
        self.assertEqual(route.see("H", "b", "b"), 1)
        route.withdraw(0)
        self.assertEqual(state(route)[2:4], [[(1, "H", "b", "b")], [(0,), (2,)]])
        route.undo()
        self.assertEqual(state(route)[2:4], [[(0, "H", "a", "a"), (1, "H", "b", "b")], [(0,)]])
        route.undo()
        route.undo()
        self.assertEqual(state(route)[2:4], [[], [(0,), (1,), (2,)]])
        # The number of an entry that was taken back may be given again.
        self.assertEqual(route.see("H", "bb", "bb"), 0)
        self.assertEqual(route.see("", "", ""), 1)
        route.undo()
        route.redo()
        self.assertEqual(route.ledger().entries(), [(0, "H", "bb", "bb"), (1, "", "", "")])
        route.withdraw(1)
        self.assertEqual(route.see("", "", ""), 2)
        self.assertEqual(route.past, 4)

    def test_undo_does_not_check_whether_texts_melt(self):
        route = simple("a*|b")
        route.see("H", "a", "a")
        route.add("H")
        route.undo()
        route.undo()
        route.redo()
        route.redo()
        self.assertEqual([route.row, route.ledger().left()], ["H", [(0,)]])

    def test_the_limit_is_no_part_of_the_history(self):
        route = simple(limit=4)
        route += "SPS"
        route.limit = 5
        route.undo()
        self.assertEqual([route.limit, route.past, route.future], [5, 0, 1])
        route.limit = 0
        self.assertEqual(route.future, 1)
        route.redo()
        self.assertEqual([route.row, route.limit], ["SPS", 0])
        self.assertRaises(TooLong, route.add, "P")
        route.take(0)
        self.assertEqual([route.row, route.past], ["PS", 2])
        self.assertRaises(TooLong, route.change_limit, 1)
        route.limit = 2
        self.assertEqual(route.limit, 2)

    def test_twin(self):
        route = simple()
        route += "SP"
        route.see("H", "a", "a")
        route.add("P")
        route.undo()
        twin = route.twin()
        self.assertEqual(history(twin), history(route))
        twin.redo()
        twin.limit = 12
        twin.see("H", "b", "b")
        self.assertEqual([twin.row, twin.past, twin.future, twin.limit, len(twin.ledger())], ["SPP", 4, 0, 12, 2])
        self.assertEqual([route.row, route.past, route.future, route.limit, len(route.ledger())], ["SP", 2, 1, 8, 1])
        route.undo()
        route.undo()
        self.assertEqual([twin.row, route.row, len(twin.ledger())], ["SPP", "", 2])
        # A twin of a route that is longer than its limit.
        route.redo()
        route.undo()
        route.limit = 0
        route.redo()
        self.assertEqual(history(route.twin()), history(route))


class AttemptTest(RouteTest):
    def test_deeds(self):
        route = simple("a*|b")
        deeds = [("add", "S"), ("insert", 0, "P"), ("swap", 0), ("take", 1), ("see", "H", "a", "a"), ("add", "H"), ("limit", 3),
                 ("withdraw", 0), ("undo",), ("redo",)]
        given = list(deeds)
        self.unchanged(route, Refused, attempt, route, deeds)
        deeds[7] = ("see", "H", "b", "b")
        self.assertEqual(attempt(route, deeds), 10)
        self.assertEqual(state(route), ["SH", 2, [(0, "H", "a", "a"), (1, "H", "b", "b")], [(0,)], 3, 7, 0])
        self.assertEqual(deeds[:7] + deeds[8:], given[:7] + given[8:])
        # Each deed that is a change is a change of its own.
        for row in ["SH", "S", "S", "SP", "PS", "S", ""]:
            route.undo()
            self.assertEqual(route.row, row)
        self.assertEqual(attempt(route, []), 0)
        self.assertEqual([route.past, route.future], [0, 7])

    def test_refused_deeds(self):
        cases = [(("add", "X"), UnknownLetter), (("add", "L"), Melted), (("insert", 9, "P"), BadIndex), (("take", 2), BadIndex),
                 (("swap", 1), BadIndex), (("see", "X", "a", "a"), UnknownLetter), (("see", "H", "?", "a"), BadText),
                 (("see", "S", "a", "a"), NoWorld), (("withdraw", 5), UnknownEntry), (("redo",), NothingToRedo),
                 (("limit", 1), TooLong), (("limit", 13), BadCount)]
        for deed, kind in cases:
            for before in [[], [("swap", 0)], [("limit", 9), ("see", "H", "", ""), ("add", "P"), ("take", 2)]]:
                route = simple()
                route += "SP"
                error = self.unchanged(route, Refused, attempt, route, before + [deed, ("add", "P")])
                self.assertEqual(error.index, len(before))
                self.assertIs(type(error.__cause__), kind, deed)
                self.assertIsInstance(error.__cause__, TaleError)
        error = self.unchanged(simple(), Refused, attempt, simple(), [("undo",)])
        self.assertIs(type(error.__cause__), NothingToUndo)

    def test_refused_after_an_undo(self):
        route = simple()
        route.add("S")
        route.add("P")
        route.see("H", "", "")
        route.undo()
        # The undo takes back a change from before the call, and all that was there comes back.
        error = self.unchanged(route, Refused, attempt, route, [("undo",), ("undo",), ("add", "B"), ("add", "L")])
        self.assertEqual(error.index, 3)
        cause = error.__cause__
        self.assertEqual([type(cause), cause.out, cause.one, cause.other], [Melted, "aa", "a", "b"])
        self.assertEqual([route.row, route.past, route.future], ["SP", 2, 1])
        route.redo()
        self.assertEqual([len(route.ledger()), route.past], [1, 3])
        self.assertEqual(attempt(route, [("undo",), ("undo",), ("add", "B")]), 3)
        self.assertEqual([route.row, route.past, route.future], ["SB", 2, 0])

    def test_the_limit_comes_back(self):
        route = simple(limit=4)
        self.unchanged(route, Refused, attempt, route, [("limit", 12), ("add", "S"), ("add", "X")])
        self.assertEqual(route.limit, 4)

    def test_the_route_stays_the_same_object(self):
        route = simple()
        twin = route.twin()
        attempt(route, [("add", "S")])
        self.assertEqual([route.row, twin.row], ["S", ""])
        route.add("P")
        route.undo()
        self.assertEqual([route.row, route.past, route.future], ["S", 1, 1])

    def test_numbers_of_entries(self):
        route = simple()
        self.assertEqual(attempt(route, [("see", "H", "", ""), ("undo",), ("see", "H", "bb", "bb"), ("withdraw", 0)]), 4)
        self.assertEqual(route.see("H", "", ""), 1)
        self.assertEqual(route.past, 3)


class WholeTest(RouteTest):
    def test_texts_never_melt(self):
        rng = random.Random(83)
        for _ in range(30):
            route = simple(rng.choice(["a*", "(a|b)*", "a*|b", "S*b", "J*aS?"]), limit=4)
            stock = route._stock
            for _ in range(12):
                deed = rng.choice([("add", rng.choice("SLPJBH")), ("insert", rng.randint(0, 4), rng.choice("SLPJBH")),
                                   ("take", rng.randint(0, 4)), ("swap", rng.randint(0, 3)), ("undo",), ("redo",), ("limit", 4),
                                   ("see", "H", rng.choice(all_texts(AB, 1)), rng.choice(all_texts(AB, 1))),
                                   ("withdraw", rng.randint(0, 2))])
                before = history(route)
                try:
                    attempt(route, [deed])
                except Refused:
                    self.assertEqual(history(route), before)
                self.assertIsNone(melted(route.machine(), stock))


if __name__ == "__main__":
    unittest.main()
