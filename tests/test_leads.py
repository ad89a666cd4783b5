"""Points 19 to 21: leads and lead tables."""

import random
import unittest
from unittest import mock

from talepost.errors import Mixed
from talepost.leads import lead_rows, leads_hold, part_on, parting_text
from talepost.machines import Machine

from helpers import AB, OTHER, by_order, counting_machine, pairs, random_machine, said, spelled


def slow_parting(first, second, longest):
    one, other = said(first, longest, 9), said(second, longest, 9)
    texts = [text for text in one if text in other and len(one[text] | other[text]) > 1]
    return min(texts, key=by_order, default=None)


class PartingTest(unittest.TestCase):
    def test_parting_text(self):
        identity = Machine.identity(AB)
        self.assertIsNone(parting_text(identity, identity))
        self.assertEqual(parting_text(identity, pairs(("b", "b"), ("ab", "a"), ("ba", "ab"))), "ab")
        self.assertIsNone(parting_text(identity, pairs(("b", "b"))))
        self.assertIsNone(parting_text(pairs(("a", "b")), pairs(("b", "a"))))
        self.assertEqual(parting_text(pairs(("a", "b"), ("a", "a")), identity), "a")
        self.assertIsNone(parting_text(pairs(), identity))

    def test_only_the_end_differs(self):
        late = spelled([[("a", "", 1)], [("a", "", 2)], [("a", "bbb", 0)]], ["", "b", "bb"])
        early = spelled([[("a", "b", 0)]], [""])
        self.assertIsNone(parting_text(late, early))
        wrong = spelled([[("a", "", 1)], [("a", "", 2)], [("a", "bbb", 0)]], ["", "b", "b-"])
        self.assertEqual(parting_text(wrong, early), "aa")

    def test_leads_that_grow(self):
        slow, fast = spelled([[("a", "b", 0)]], [""]), spelled([[("a", "bb", 0)]], [""])
        self.assertEqual(parting_text(slow, fast), "a")
        late = Machine(AB, [[("a", "b", 1)], [("a", "b", 1), ("b", "", 2)], [("b", "-", 2)]], [False, False, True])
        self.assertIsNone(parting_text(late, late))

    def test_arcs_that_read_nothing(self):
        loop = Machine(AB, [[("", "a", 0)]], [True])
        self.assertEqual(parting_text(loop, loop), "")
        self.assertEqual(parting_text(loop, pairs(("", "aa"))), "")
        self.assertIsNone(lead_rows(loop, loop))

    def test_sixty_places(self):
        one = counting_machine(AB, 60)
        other = counting_machine(AB, 59, lambda place, sign: "b" if place == 58 else sign)
        self.assertEqual(len(parting_text(one, other)), 60 * 59)
        self.assertIsNone(parting_text(one, counting_machine(AB, 59)))
        self.assertEqual(len(lead_rows(one, one)), 60)
        held = [[("a", "", place + 1)] for place in range(59)] + [[("b", "", 0)]]
        spelling = Machine.spelled(AB, held, ["b" * place if place % 7 == 0 else None for place in range(60)])
        self.assertIsNone(parting_text(spelling, spelling))

    def test_many_pairs(self):
        # Many places, of which any two are met together: texts part all the same, and early.
        rows = [[(sign, sign, to) for sign in "-ab" for to in [place, (place * 7 + 3) % 60]] + [("", "", (place + 1) % 60)]
                for place in range(60)]
        rows[59].append(("a", "b", 5))
        machine = Machine(AB, rows, [place == 30 for place in range(60)])
        self.assertEqual(parting_text(machine, machine), "a")

    def test_random(self):
        rng = random.Random(21)
        for _ in range(300):
            one, other = random_machine(rng), random_machine(rng)
            kept = str([one.arcs, one.goods, other.arcs, other.goods])
            text, slow = parting_text(one, other), slow_parting(one, other, 4)
            rows = lead_rows(one, other)
            if text is None or len(text) > 4:
                self.assertIsNone(slow)
            elif slow != text:
                self.assertTrue(slow is None or by_order(text) < by_order(slow))
                longer = [said(machine, len(text), 14)[text] for machine in [one, other]]
                self.assertGreater(len(longer[0] | longer[1]), 1)
            self.assertEqual(rows is None, text is not None)
            if rows is not None:
                self.assertIs(leads_hold(one, other, rows), True)
                self.assertIs(leads_hold(one, other, rows[::-1]), True)
                self.assertEqual(rows, sorted(rows))
                self.assertIs(leads_hold(one, other, rows[:-1]), False)
            self.assertEqual(kept, str([one.arcs, one.goods, other.arcs, other.goods]))

    def test_part_on(self):
        one, two, other = pairs(("a", "b")), pairs(("a", "b"), ("a", "-")), pairs(("a", "aa"), ("b", "b"))
        for first, second, parts in [(one, one, False), (one, two, True), (two, one, True), (one, other, True),
                                     (two, two, True), (two, pairs(), False), (pairs(), two, False)]:
            self.assertIs(part_on(first, second, "a"), parts)

    def test_search_that_is_put_off(self):
        rng = random.Random(22)
        for _ in range(100):
            one, other = random_machine(rng), random_machine(rng)
            text = parting_text(one, other)
            for early in [12, 2, 0]:
                with mock.patch("talepost.leads.HASTE", 1), mock.patch("talepost.leads.EARLY", early):
                    self.assertEqual(parting_text(one, other), text)
            with mock.patch("talepost.leads.HASTE", 2), mock.patch("talepost.leads.SHORT", 1):
                self.assertEqual(parting_text(one, other), text)

    def test_mixed(self):
        mine, other = Machine.identity(AB), Machine.identity(OTHER)
        for deed in [lambda: parting_text(mine, other), lambda: lead_rows(mine, other),
                     lambda: leads_hold(mine, other, [(9, 9, "?", None)])]:
            self.assertRaises(Mixed, deed)


class RowsTest(unittest.TestCase):
    def test_rows(self):
        late = Machine(AB, [[("a", "", 1)], [("b", "a", 2), ("-", "", 3)], [("", "b", 4)], [], []],
                       [False, False, False, False, True])
        early = Machine(AB, [[("a", "a", 1)], [("b", "b", 2), ("-", "", 0)], []], [False, False, True])
        self.assertEqual(lead_rows(late, early), [(0, 0, "", ""), (1, 1, "", "a"), (2, 2, "", "b"), (3, 0, None, None),
                                                  (4, 2, "", "")])
        self.assertEqual(lead_rows(early, late), [(0, 0, "", ""), (0, 3, None, None), (1, 1, "a", ""), (2, 2, "b", ""),
                                                  (2, 4, "", "")])

    def test_no_good_pair(self):
        one = Machine(AB, [[("a", "a", 1)], [("", "-", 1)]], [False, False])
        self.assertEqual(lead_rows(one, one), [(0, 0, None, None), (1, 1, None, None)])
        self.assertIs(leads_hold(one, one, [(0, 0, None, None), (1, 1, None, None)]), True)
        other = Machine(AB, [[("a", "a", 0)]], [True])
        self.assertEqual(lead_rows(one, other), [(0, 0, None, None), (1, 0, None, None)])

    def test_new_lists(self):
        machine = Machine.identity(AB)
        rows = lead_rows(machine, machine)
        rows.append((0, 0, "", ""))
        self.assertEqual(lead_rows(machine, machine), [(0, 0, "", "")])


class HoldsTest(unittest.TestCase):
    def setUp(self):
        self.late = Machine(AB, [[("a", "", 1)], [("b", "a", 2)], [("", "b", 3)], []], [False, False, False, True])
        self.early = Machine(AB, [[("a", "a", 1)], [("b", "b", 2)], []], [False, False, True])
        self.rows = [(0, 0, "", ""), (1, 1, "", "a"), (2, 2, "", "b"), (3, 2, "", "")]

    def holds(self, rows):
        answer = leads_hold(self.late, self.early, rows)
        self.assertIsInstance(answer, bool)
        return answer

    def test_holds(self):
        rows = list(self.rows)
        self.assertTrue(self.holds(rows))
        self.assertEqual(rows, self.rows)
        self.assertTrue(self.holds(rows[::-1]))
        self.assertTrue(self.holds(rows + [(3, 0, None, None)]))
        self.assertTrue(self.holds(rows + [(3, 0, "?", ""), (3, 1, "", "a long one")]))

    def test_pairs(self):
        for row in [(4, 0, None, None), (0, 3, None, None), (-1, 0, None, None), (0, -1, None, None),
                    (10 ** 39, 0, "", "")]:
            self.assertFalse(self.holds(self.rows + [row]))
        self.assertFalse(self.holds(self.rows + [(0, 0, "", "")]))
        self.assertFalse(self.holds(self.rows + [(3, 0, None, None), (3, 0, None, None)]))
        self.assertFalse(self.holds([]))
        self.assertFalse(self.holds(self.rows[1:]))
        for at in range(4):
            self.assertFalse(self.holds(self.rows[:at] + self.rows[at + 1:]))

    def test_strings(self):
        for row in [(3, 0, None, ""), (3, 0, "", None), (3, 0, "a", "b"), (3, 0, "a", "a"), (3, 0, "a", None)]:
            self.assertFalse(self.holds(self.rows + [row]))
        wrong = [(0, (0, 0, "a", "")), (0, (0, 0, "", "a")), (0, (0, 0, None, None)), (1, (1, 1, "", "")),
                 (1, (1, 1, "a", "")), (1, (1, 1, "", "b")), (2, (2, 2, "b", "")), (3, (3, 2, "", "b")),
                 (3, (3, 2, None, None)), (2, (2, 2, None, None)), (1, (1, 1, None, None))]
        for at, row in wrong:
            self.assertFalse(self.holds(self.rows[:at] + [row] + self.rows[at + 1:]), row)

    def test_none_rows(self):
        self.assertFalse(self.holds([(at, to, None, None) for at, to, _, _ in self.rows]))
        self.assertTrue(self.holds(self.rows + [(3, 1, None, None), (0, 2, None, None)]))
        # The pair (2, 0) moves to (3, 0), which must have a row with None then.
        self.assertFalse(self.holds(self.rows + [(2, 0, None, None)]))
        self.assertFalse(self.holds(self.rows + [(2, 0, None, None), (3, 0, "", "")]))
        self.assertTrue(self.holds(self.rows + [(2, 0, None, None), (3, 0, None, None)]))
        self.assertTrue(self.holds(self.rows + [(2, 0, "a", ""), (3, 0, None, None)]))
        self.assertTrue(self.holds(self.rows + [(2, 0, "a", ""), (3, 0, "ab", "")]))
        self.assertFalse(self.holds(self.rows + [(2, 0, "a", ""), (3, 0, "a", "")]))

    def test_parting_machines_have_no_table(self):
        other = Machine(AB, [[("a", "a", 1)], [("b", "-", 2)], []], [False, False, True])
        self.assertFalse(leads_hold(self.late, other, [(0, 0, "", ""), (1, 1, "", "a"), (2, 2, "", "-"), (3, 2, "b", "-")]))
        self.assertFalse(leads_hold(self.late, other, [(0, 0, "", ""), (1, 1, "", "a"), (2, 2, "", "-"), (3, 2, "", "")]))


if __name__ == "__main__":
    unittest.main()
