"""Points 69 and 70: what rows tell."""

import random
import unittest

from talepost.errors import BadText, Mixed, UnknownLetter
from talepost.machines import Machine
from talepost.people import Person
from talepost.posts import Post
from talepost.rowlinks import row_doubt, row_link, senders
from talepost.rules import Rule
from talepost.stations import Fixed, Hearer, Hidden, Plain
from talepost.stocks import Stock
from talepost.sure import is_certain

from helpers import AB, OTHER, Model, all_texts, by_order, pairs, random_text, shape

TURN = [pairs(("a", "b"), ("b", "a")), pairs(("a", "a"), ("b", "b"))]


def slow_link(model, heard, asked, texts):
    """For each text that the row `heard` says, the dict of what `asked` says, with the set of the texts it is said for."""
    link = {}
    for text in texts:
        for world in model.worlds:
            for out in model.outs(world, heard, text):
                for answer in model.outs(world, asked, text):
                    link.setdefault(out, {}).setdefault(answer, set()).add(text)
    return link


def slow_doubt(link):
    unsure = sorted([out for out in link if len(link[out]) > 1], key=by_order)
    if not unsure:
        return None
    out = unsure[0]
    answers = sorted(link[out], key=by_order)[:2]
    return (out, *answers, *[min(link[out][answer], key=by_order) for answer in answers])


class LinkTest(unittest.TestCase):
    def test_random_posts(self):
        rng = random.Random(69)
        found = set()
        for _ in range(120):
            model = Model(rng, rng.choice([(2, 2), (3, 2), (3,), ()]))
            letters = "".join(model.post.members())
            heard, asked = ["".join(rng.choice(letters) for _ in range(rng.randint(0, 2))) for _ in range(2)]
            texts = sorted({random_text(rng, 3) for _ in range(5)})
            stock = Stock.listed(AB, texts)
            link = slow_link(model, heard, asked, texts)
            machine = row_link(model.post, heard, asked, stock)
            for out in [*link, *all_texts(AB, 1)]:
                self.assertEqual(machine.outs(out), sorted(link.get(out, {}), key=by_order), (heard, asked))
            doubt = row_doubt(model.post, heard, asked, stock)
            self.assertEqual(doubt, slow_doubt(link), (heard, asked))
            self.assertEqual(doubt is None, is_certain(machine))
            found.add(doubt is None)
        self.assertEqual(found, {True, False})

    def test_rows_with_the_same_hidden_station(self):
        rng = random.Random(70)
        for _ in range(40):
            model = Model(rng, (3, 2))
            for heard, asked in [("H", "H"), ("HX", "X"), ("HH", "H"), ("X", "HA"), ("HAH", "")]:
                texts = sorted({random_text(rng, 2) for _ in range(4)})
                link = slow_link(model, heard, asked, texts)
                stock = Stock.listed(AB, texts)
                self.assertEqual(row_doubt(model.post, heard, asked, stock), slow_doubt(link), (heard, asked))
                machine = row_link(model.post, heard, asked, stock)
                for out in link:
                    self.assertEqual(machine.outs(out), sorted(link[out], key=by_order))

    def test_one_world_for_both_rows(self):
        post = Post(AB, A=Hidden(TURN), B=Hidden(TURN))
        stock = Stock.listed(AB, ["a"])
        self.assertEqual([row_link(post, "A", "A", stock).outs(out) for out in ["a", "b"]], [["a"], ["b"]])
        self.assertIsNone(row_doubt(post, "A", "A", stock))
        self.assertEqual(row_doubt(post, "A", "B", stock), ("a", "a", "b", "a", "a"))
        self.assertEqual(row_doubt(post, "AB", "BA", stock), None)

    def test_the_text_itself(self):
        # With the empty row as `asked`, the question is whether the text itself is surely known.
        post = Post(AB, A=Hearer(Person(AB, "-bb", ["-", "a", "b"])), H=Hidden(TURN), P=Plain(AB))
        every = Stock.every(AB)
        self.assertEqual(row_doubt(post, "A", "", every), ("b", "a", "b", "a", "b"))
        self.assertIsNone(row_doubt(post, "P", "", every))
        self.assertIsNone(row_doubt(post, "", "", every))
        self.assertIsNone(row_doubt(post, "", "PA", every))
        self.assertIsNone(row_doubt(post, "A", "", shape("(b|J)*")))
        self.assertEqual(row_doubt(post, "H", "", Stock.listed(AB, ["a", "b"])), ("a", "a", "b", "a", "b"))
        self.assertIsNone(row_doubt(post, "H", "", Stock.listed(AB, ["a", "bb"])))
        self.assertEqual(row_doubt(post, "", "H", every), ("a", "a", "b", "a", "a"))

    def test_all_texts_of_any_length(self):
        drop = Fixed(Rule.read(AB, "drop vowels after 3").machine())
        last = Fixed(Rule.read(AB, "drop all but last").machine())
        post = Post(AB, D=drop, L=last)
        every = Stock.every(AB)
        self.assertEqual(row_doubt(post, "D", "", every), ("---", "---", "---a", "---", "---a"))
        self.assertIsNone(row_doubt(post, "D", "", shape("b*")))
        self.assertEqual(row_doubt(post, "D", "L", every), ("---", "-", "a", "---", "---a"))
        self.assertIsNone(row_doubt(post, "D", "L", shape("S*b")))
        # Whoever hears D knows the text up to a's at its end, so surely its first sign, however long it is.
        first = Fixed(Machine(AB, [[(sign, sign, 1) for sign in AB.signs], [(sign, "", 1) for sign in AB.signs]], [True, True]))
        self.assertIsNone(row_doubt(Post(AB, D=drop, F=first), "D", "F", every))

    def test_empty_stocks(self):
        post = Post(AB, H=Hidden(TURN))
        self.assertIsNone(row_doubt(post, "H", "", Stock.none(AB)))
        self.assertEqual(row_link(post, "H", "", Stock.none(AB)).outs("a"), [])

    def test_errors(self):
        post = Post(AB, A=Plain(AB))
        every = Stock.every(AB)
        for call in [row_link, row_doubt]:
            for heard, asked, letter, place in [("AX", "Y", "X", 1), ("A", "AAY", "Y", 2), ("", "?", "?", 0), ("x", "", "x", 0)]:
                with self.assertRaises(UnknownLetter) as caught:
                    call(post, heard, asked, every)
                self.assertEqual([caught.exception.letter, caught.exception.place], [letter, place])
            self.assertRaises(Mixed, call, post, "X", "Y", Stock.every(OTHER))
            self.assertRaises(Mixed, call, post, "A", "", Stock.every(OTHER))

    def test_later_changes(self):
        post = Post(AB, A=Fixed(TURN[0]))
        machine = row_link(post, "A", "", Stock.every(AB))
        post["A"] = Plain(AB)
        self.assertEqual(machine.outs("a"), ["b"])


class SendersTest(unittest.TestCase):
    def test_random_posts(self):
        rng = random.Random(71)
        for _ in range(100):
            model = Model(rng, rng.choice([(2, 2), (3,), ()]))
            letters = "".join(model.post.members())
            row = "".join(rng.choice(letters) for _ in range(rng.randint(0, 3)))
            texts = sorted({random_text(rng, 3) for _ in range(5)}, key=by_order)
            every = Stock.listed(AB, texts)
            outs = {text: model.all_outs(row, text) for text in texts}
            for out in sorted(set().union(*outs.values()))[:3] + [random_text(rng, 2)]:
                found = senders(model.post, row, out, every)
                self.assertEqual(found, Stock.listed(AB, [text for text in texts if out in outs[text]]), (row, out))
                whole = senders(model.post, row, out, Stock.every(AB))
                for text in texts:
                    self.assertIs(text in whole, out in outs[text])

    def test_infinitely_many(self):
        post = Post(AB, D=Fixed(Rule.read(AB, "drop joints").machine()), O=Fixed(Rule.read(AB, "once all").machine()))
        every = Stock.every(AB)
        self.assertEqual(senders(post, "D", "ab", every), shape("J*aJ*bJ*"))
        self.assertEqual(senders(post, "OD", "aa", every), shape("J*a+J+a+J*"))
        self.assertEqual(senders(post, "DO", "a", shape("L*")), shape("a+"))
        self.assertEqual(senders(post, "", "ab", every), Stock.listed(AB, ["ab"]))
        self.assertEqual(senders(post, "D", "-", every), Stock.none(AB))

    def test_one_world(self):
        post = Post(AB, A=Hidden(TURN))
        every = Stock.every(AB)
        self.assertEqual(senders(post, "A", "a", every), Stock.listed(AB, ["a", "b"]))
        self.assertEqual(senders(post, "AA", "a", every), Stock.listed(AB, ["a"]))

    def test_errors(self):
        post = Post(AB, A=Plain(AB))
        with self.assertRaises(UnknownLetter) as caught:
            senders(post, "AX", "bad", Stock.every(AB))
        self.assertEqual([caught.exception.letter, caught.exception.place], ["X", 1])
        with self.assertRaises(BadText) as caught:
            senders(post, "A", "bad", Stock.every(AB))
        self.assertEqual(caught.exception.text, "bad")
        self.assertRaises(Mixed, senders, post, "X", "bad", Stock.every(OTHER))


if __name__ == "__main__":
    unittest.main()
