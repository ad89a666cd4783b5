"""Points 71 and 72: fewest_plain, swappable, undoing."""

import itertools
import random
import unittest

from talepost.errors import Mixed, TooMany, UnknownLetter
from talepost.machines import Machine
from talepost.mending import fewest_plain, swappable, undoing
from talepost.people import Person
from talepost.posts import Post
from talepost.rules import Rule
from talepost.stations import Fixed, Hearer, Hidden, Plain
from talepost.stocks import Stock

from helpers import AB, OTHER, Model, least_pair, pairs, random_text, shape, small_rows

EVERY = Stock.every(AB)


def rule(written):
    return Fixed(Rule.read(AB, written).machine())


def person(hears):
    return Hearer(Person(AB, hears, ["-", "a", "b"]))


def slow_fewest(model, row, texts):
    """The least list of places, tried in the order of the document."""
    for many in range(len(row) + 1):
        for places in itertools.combinations(range(len(row)), many):
            plain = "".join("P" if at in places else letter for at, letter in enumerate(row))
            if least_pair({text: model.all_outs(plain, text) for text in texts}) is None:
                return list(places)


class FewestPlainTest(unittest.TestCase):
    def test_random_posts(self):
        rng = random.Random(711)
        lengths = set()
        for _ in range(120):
            model = Model(rng, rng.choice([(2, 2), (3,), ()]))
            letters = "".join(model.post.members())
            row = "".join(rng.choice(letters) for _ in range(rng.randint(0, 4)))
            texts = sorted({random_text(rng, 2) for _ in range(3)})
            found = fewest_plain(model.post, row, Stock.listed(AB, texts))
            self.assertEqual(found, slow_fewest(model, row, texts), (row, texts))
            lengths.add(len(found))
        self.assertLessEqual({0, 1, 2, 3}, lengths)

    def test_a_station_at_several_places(self):
        # A turns a and b; L makes both equal; so one L that is plain is not enough.
        post = Post(AB, A=person("-ba"), L=person("-aa"))
        self.assertEqual(fewest_plain(post, "LAL", EVERY), [0, 2])
        self.assertEqual(fewest_plain(post, "AAA", EVERY), [])
        self.assertEqual(fewest_plain(post, "ALLAA", EVERY), [1, 2])
        # O keeps the texts without doubled signs apart; D makes such texts, but only behind one another.
        post = Post(AB, O=rule("once all"), D=rule("drop joints"))
        stock = shape("(aJ)*a") | Stock.listed(AB, ["b"])
        self.assertEqual(fewest_plain(post, "O", stock), [])
        self.assertEqual(fewest_plain(post, "D", stock), [])
        self.assertEqual(fewest_plain(post, "DO", stock), [0])
        self.assertEqual(fewest_plain(post, "DODO", stock), [0, 2])
        self.assertEqual(fewest_plain(post, "DOD", stock), [0])

    def test_the_first_list(self):
        post = Post(AB, A=rule("drop [a]"), B=rule("add b"), C=rule("drop [b] but last"))
        self.assertEqual(fewest_plain(post, "", EVERY), [])
        self.assertEqual(fewest_plain(post, "A", shape("b*")), [])
        self.assertEqual(fewest_plain(post, "A", EVERY), [0])
        self.assertEqual(fewest_plain(post, "AB", EVERY), [0])
        # Either of the two places will do.
        both = Post(AB, E=Fixed(pairs(("a", "b"), ("b", "-"))), F=Fixed(pairs(("-", "a"), ("b", "a"), ("a", "b"))))
        self.assertEqual(fewest_plain(both, "EF", Stock.listed(AB, ["a", "b"])), [0])

    def test_all_worlds_together(self):
        turn = Hidden([pairs(("a", "b"), ("b", "a")), pairs(("a", "a"), ("b", "b"))])
        post = Post(AB, A=turn)
        stock = Stock.listed(AB, ["a", "b"])
        self.assertEqual(fewest_plain(post, "A", stock), [0])
        self.assertEqual(fewest_plain(post, "AA", stock), [])
        self.assertEqual(fewest_plain(post, "AAA", stock), [0])

    def test_five_letters_and_six(self):
        post = Post(AB, A=rule("drop [a]"))
        self.assertEqual(fewest_plain(post, "AAAAA", EVERY), [0, 1, 2, 3, 4])
        with self.assertRaises(TooMany) as caught:
            fewest_plain(post, "AAAAAA", EVERY)
        self.assertEqual(caught.exception.most, 5)

    def test_errors(self):
        post = Post(AB, A=Plain(AB))
        for row, letter, place in [("AAX", "X", 2), ("AAAAAAAX", "X", 7)]:
            with self.assertRaises(UnknownLetter) as caught:
                fewest_plain(post, row, EVERY)
            self.assertEqual([caught.exception.letter, caught.exception.place], [letter, place])
        self.assertRaises(Mixed, fewest_plain, post, "X", Stock.every(OTHER))
        self.assertRaises(Mixed, fewest_plain, post, "AAAAAA", Stock.every(OTHER))


class SwappableTest(unittest.TestCase):
    def test_random_posts(self):
        rng = random.Random(72)
        results = set()
        for _ in range(60):
            model = Model(rng, rng.choice([(2,), (1, 2)]))
            texts = sorted({random_text(rng, 2) for _ in range(rng.randint(0, 3))})
            expected = []
            for pair in itertools.combinations(model.post.members(), 2):
                outs = [[model.all_outs(one + other, text) for text in texts] for one, other in [pair, pair[::-1]]]
                if outs[0] == outs[1] and all(len(each) <= 1 for each in outs[0]):
                    expected.append(pair)
            self.assertEqual(swappable(model.post, Stock.listed(AB, texts)), expected)
            results.add(len(expected))
        self.assertGreater(len(results), 4)

    def test_all_texts(self):
        post = Post(AB, D=rule("drop joints"), V=rule("drop vowels"), A=rule("add a"), T=rule("write - for [a]"), P=Plain(AB))
        self.assertEqual(swappable(post, EVERY), [("A", "D"), ("A", "P"), ("D", "P"), ("D", "V"), ("P", "T"), ("P", "V")])
        self.assertEqual(swappable(post, shape("b*")), [("A", "D"), ("A", "P"), ("D", "P"), ("D", "T"), ("D", "V"),
                                                        ("P", "T"), ("P", "V"), ("T", "V")])
        self.assertEqual(len(swappable(post, Stock.none(AB))), 10)
        self.assertEqual(swappable(Post(AB), EVERY), [])

    def test_machines_that_are_not_certain(self):
        doubt = Hearer(Person(AB, "-ab", ["-", "ab", "b"]))
        post = Post(AB, A=doubt, B=Plain(AB), C=Hidden([Machine.identity(AB)] * 2))
        self.assertEqual(swappable(post, EVERY), [("B", "C")])
        self.assertEqual(swappable(post, shape("(J|b)*")), [("A", "B"), ("A", "C"), ("B", "C")])

    def test_errors(self):
        self.assertRaises(Mixed, swappable, Post(AB), Stock.every(OTHER))


class UndoingTest(unittest.TestCase):
    def test_random_posts(self):
        rng = random.Random(73)
        results = set()
        for _ in range(200):
            model = Model(rng, rng.choice([(2,), (1, 2)]))
            letters = model.post.members()
            row = "".join(rng.choice([*letters, "A", "B"]) for _ in range(rng.randint(0, 2)))
            texts = sorted({random_text(rng, 2) for _ in range(rng.randint(0, 3))})
            expected = None
            for behind in small_rows(letters, 2):
                if expected is None and all(model.all_outs(row + behind, text) == {text} for text in texts):
                    expected = behind
            self.assertEqual(undoing(model.post, row, Stock.listed(AB, texts)), expected, (row, texts))
            results.add(None if expected is None else len(expected))
        self.assertLessEqual({None, 0, 1}, results)

    def test_no_letter_one_and_two(self):
        post = Post(AB, A=person("ab-"), B=person("-ba"), D=rule("drop joints"))
        self.assertEqual(undoing(post, "", EVERY), "")
        self.assertEqual(undoing(post, "BB", EVERY), "")
        self.assertEqual(undoing(post, "D", shape("L*")), "")
        self.assertEqual(undoing(post, "B", EVERY), "B")
        self.assertEqual(undoing(post, "AA", EVERY), "A")
        self.assertEqual(undoing(post, "A", EVERY), "AA")
        self.assertEqual(undoing(post, "AB", EVERY), "AB")
        self.assertIsNone(undoing(post, "D", EVERY))
        # The least one of several.
        post = Post(AB, A=person("ab-"), B=person("b-a"), C=person("b-a"))
        self.assertEqual(undoing(post, "A", EVERY), "B")
        # A text for which nothing is said does not come back.
        self.assertIsNone(undoing(Post(AB, F=Fixed(pairs(("a", "a")))), "F", Stock.listed(AB, ["a", "b"])))

    def test_all_worlds_together(self):
        post = Post(AB, H=Hidden([person("-ba").machine(), Machine.identity(AB)]))
        self.assertEqual(undoing(post, "H", EVERY), "H")
        self.assertEqual(undoing(post, "HH", EVERY), "")
        # Three turns or none: all texts come back, though in each world the row says something else on the way.
        post["H"] = Hidden([person("ab-").machine(), Machine.identity(AB)])
        self.assertEqual(undoing(post, "H", EVERY), "HH")
        post["H"] = Hidden([person("-aa").machine(), Machine.identity(AB)])
        self.assertIsNone(undoing(post, "H", EVERY))

    def test_errors(self):
        post = Post(AB, A=Plain(AB))
        with self.assertRaises(UnknownLetter) as caught:
            undoing(post, "AX", EVERY)
        self.assertEqual([caught.exception.letter, caught.exception.place], ["X", 1])
        self.assertRaises(Mixed, undoing, post, "AX", Stock.every(OTHER))


if __name__ == "__main__":
    unittest.main()
