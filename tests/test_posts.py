"""Points 66 to 68: posts, their worlds and their rows."""

import random
import unittest

from talepost.casts import Cast
from talepost.errors import BadLetter, BadText, Mixed, TooMany, UnknownLetter, UnknownWorld
from talepost.machines import Machine
from talepost.people import Person
from talepost.posts import MOST_STATIONS, MOST_WORLDS, Post
from talepost.stations import Fixed, Hearer, Hidden, Plain

from helpers import AB, OTHER, Model, all_texts, by_order, pairs, random_bounded, random_text, small_rows

SWAP = Person(AB, "-ba", ["-", "a", "b"])
LOSE = Person(AB, "-aa", ["-", "a", "b"])
ONE = Machine.identity(AB)


def hidden(many):
    """A hidden station of so many machines: the one with the index k says the text a for k times a."""
    return Hidden([pairs(("a", "a" * index)) for index in range(many)])


class PutTest(unittest.TestCase):
    def state(self, post):
        return [(letter, post[letter]) for letter in post.members()]

    def unchanged(self, post, error, call, *given):
        before = self.state(post)
        with self.assertRaises(error) as caught:
            call(*given)
        self.assertEqual(self.state(post), before)
        return caught.exception

    def test_collection(self):
        stations = [Plain(AB), Fixed(ONE), Hearer(SWAP)]
        post = Post(AB, Z=stations[0], A=stations[1])
        self.assertEqual([len(post), post.members()], [2, ["A", "Z"]])
        self.assertIsNone(post.put("M", stations[2]))
        self.assertEqual(self.state(post), [("A", stations[1]), ("M", stations[2]), ("Z", stations[0])])
        post["A"] = stations[2]
        self.assertIs(post["A"], stations[2])
        self.assertEqual(len(post), 3)
        self.assertIsNone(post.leave("M"))
        self.assertEqual(post.members(), ["A", "Z"])
        for letter, there in [("A", True), ("Z", True), ("M", False), ("", False), ("AZ", False), ("a", False), ("-", False)]:
            self.assertIs(letter in post, there)
        self.assertEqual([len(Post(AB)), Post(AB).members(), post.alphabet], [0, [], AB])
        self.assertRaises(TypeError, iter, post)
        self.assertEqual([MOST_STATIONS, MOST_WORLDS], [8, 64])

    def test_unknown_letters(self):
        post = Post(AB, A=Plain(AB))
        for call in [post.leave, lambda letter: post[letter]]:
            for letter in ["B", "", "AA", "a", "?"]:
                error = self.unchanged(post, UnknownLetter, call, letter)
                self.assertEqual([error.letter, error.place], [letter, 0])

    def test_bad_letters(self):
        post = Post(AB, A=Plain(AB))
        for letter in ["", "a", "AB", "-", "1", "@", "["]:
            error = self.unchanged(post, BadLetter, post.put, letter, Plain(AB))
            self.assertEqual(error.letter, letter)
            error = self.unchanged(post, BadLetter, post.__setitem__, letter, Plain(AB))
            self.assertEqual(error.letter, letter)
        # The keywords are put in ascending order, as Python orders strings.
        for letters, first in [(["A", "a", "BC"], "BC"), (["a", "A"], "a"), (["b", "a"], "a")]:
            with self.assertRaises(BadLetter) as caught:
                Post(AB, **{letter: Plain(AB) for letter in letters})
            self.assertEqual(caught.exception.letter, first)

    def test_eight_stations_and_nine(self):
        post = Post(AB, **{letter: Plain(AB) for letter in "ABCDEFGH"})
        error = self.unchanged(post, TooMany, post.put, "I", Plain(AB))
        self.assertEqual(error.most, 8)
        post.put("H", Fixed(ONE))
        self.assertEqual(len(post), 8)
        with self.assertRaises(TooMany) as caught:
            Post(AB, **{letter: Plain(AB) for letter in "ABCDEFGHI"})
        self.assertEqual(caught.exception.most, 8)
        # A bad letter comes before the ninth station, and that before the worlds.
        self.unchanged(post, BadLetter, post.put, "i", Plain(AB))
        self.assertEqual(self.unchanged(post, TooMany, post.put, "I", hidden(60)).most, 8)
        self.assertEqual(self.unchanged(Post(AB, A=hidden(60)), TooMany, Post(AB, A=hidden(60)).put, "B", hidden(2)).most, 64)
        self.assertEqual(self.unchanged(post, TooMany, lambda: Post(AB, **{letter: hidden(1) for letter in "ABCDEFGHI"})).most, 8)
        post.leave("A")
        post.put("I", Plain(AB))
        self.assertEqual(post.members(), list("BCDEFGHI"))

    def test_64_worlds_and_more(self):
        post = Post(AB, A=hidden(8), B=hidden(4), C=hidden(2), D=hidden(1), E=Plain(AB))
        self.assertEqual(len(post.worlds()), 64)
        for letter in ["F", "D", "E"]:
            error = self.unchanged(post, TooMany, post.put, letter, hidden(2))
            self.assertEqual(error.most, 64)
        self.assertEqual(self.unchanged(post, TooMany, post.__setitem__, "B", hidden(5)).most, 64)
        # A station that is replaced under its letter does not count.
        post.put("A", hidden(8))
        post.put("A", hidden(3))
        post.put("B", hidden(10))
        self.assertEqual(len(post.worlds()), 60)
        post.put("F", Hidden([ONE]))
        self.assertEqual(len(post.worlds()), 60)
        with self.assertRaises(TooMany) as caught:
            Post(AB, A=hidden(13), B=hidden(5))
        self.assertEqual(caught.exception.most, 64)

    def test_mixed(self):
        post = Post(AB, A=Plain(AB))
        for letter in ["B", "bad"]:
            self.unchanged(post, Mixed, post.put, letter, Plain(OTHER))
            self.unchanged(post, Mixed, post.__setitem__, letter, Plain(OTHER))
        self.assertRaises(Mixed, Post, AB, A=Plain(AB), B=Plain(OTHER))
        self.assertRaises(Mixed, Post, AB, a=Plain(AB), B=Plain(OTHER))
        self.assertRaises(Mixed, Post, AB, **{letter: Plain(AB) for letter in "ABCDEFGHI"}, Z=Plain(OTHER))

    def test_methods_stand_in_the_class(self):
        listed = """__init__ __getitem__ __setitem__ __contains__ __len__ put leave members cast plain worlds settled through
        outs""".split()
        self.assertLessEqual(set(listed), set(vars(Post)))

    def test_lists_are_new(self):
        post = Post(AB, A=hidden(2))
        for returned in [post.members(), post.worlds(), post.outs("A", "a")]:
            returned.append("Q")
        self.assertEqual([post.members(), post.worlds(), post.outs("A", "a")], [["A"], [(0,), (1,)], ["", "a"]])


class NewPostTest(unittest.TestCase):
    def test_cast(self):
        post = Post(AB, A=Hearer(SWAP), B=Plain(AB), C=Hearer(LOSE), D=hidden(2), E=Fixed(ONE))
        cast = post.cast()
        self.assertIsInstance(cast, Cast)
        self.assertEqual([cast.members(), cast["A"], cast["C"]], [["A", "C"], SWAP.table, LOSE.table])
        post.leave("A")
        post["C"] = Hearer(SWAP)
        self.assertEqual([cast.members(), cast["C"]], [["A", "C"], LOSE.table])
        cast.leave("C")
        self.assertIn("C", post)
        self.assertEqual(Post(AB, B=Plain(AB)).cast().members(), [])

    def test_plain(self):
        post = Post(AB, A=Hearer(SWAP), B=Fixed(pairs(("a", "b"))), D=hidden(2))
        other = post.plain("DAD")
        self.assertEqual([other[letter].KIND for letter in other.members()], ["plain", "fixed", "plain"])
        self.assertIs(other["B"], post["B"])
        self.assertEqual([post[letter].KIND for letter in post.members()], ["person", "fixed", "hidden"])
        post.leave("B")
        other["A"] = Hearer(LOSE)
        self.assertEqual([other.outs("B", "a"), post.outs("A", "a")], [["b"], ["b"]])
        same = other.plain("")
        self.assertEqual([same[letter] for letter in "ABD"], [other[letter] for letter in "ABD"])
        same.leave("A")
        self.assertEqual(other.members(), ["A", "B", "D"])
        for letters, letter, place in [("AX", "X", 1), ("aA", "a", 0), ("DD-X", "-", 2)]:
            with self.assertRaises(UnknownLetter) as caught:
                other.plain(letters)
            self.assertEqual([caught.exception.letter, caught.exception.place], [letter, place])

    def test_worlds(self):
        self.assertEqual(Post(AB, A=Plain(AB)).worlds(), [()])
        self.assertEqual(Post(AB).worlds(), [()])
        self.assertEqual(Post(AB, Z=hidden(2), B=hidden(3), C=Plain(AB)).worlds(),
                         [(0, 0), (0, 1), (1, 0), (1, 1), (2, 0), (2, 1)])

    def test_settled(self):
        post = Post(AB, A=Hearer(SWAP), Z=hidden(3), H=Hidden([ONE, pairs(("a", "aa"))]))
        for world in post.worlds():
            other = post.settled(world)
            self.assertEqual([other[letter].KIND for letter in other.members()], ["person", "fixed", "fixed"])
            self.assertEqual(other.worlds(), [()])
            self.assertEqual([other.outs("H", "a"), other.outs("Z", "a")], [["a" * (world[0] + 1)], ["a" * world[1]]])
        other = post.settled((1, 2))
        post.leave("Z")
        other["A"] = Hearer(LOSE)
        self.assertEqual([other.outs("Z", "a"), post.outs("A", "a")], [["aa"], ["b"]])
        self.assertEqual(Post(AB, A=Plain(AB)).settled(()).members(), ["A"])

    def test_unknown_worlds(self):
        post = Post(AB, A=hidden(3), B=hidden(2))
        for world in [(), (0,), (3, 0), (0, 2), (-1, 0), (0, 0, 0), (0, 10 ** 39)]:
            with self.assertRaises(UnknownWorld) as caught:
                post.settled(world)
            self.assertEqual(caught.exception.world, world)
        self.assertRaises(UnknownWorld, Post(AB).settled, (0,))


class RowTest(unittest.TestCase):
    def test_random_rows(self):
        rng = random.Random(681)
        for _ in range(40):
            model = Model(rng, rng.choice([(2, 2), (3, 2), (4,), ()]))
            rows = ["", "P", "A", "AB", "AFB", "FPG"] + [model.random_row(rng) for _ in range(3)] if model.hidden else ["", "AFG"]
            if len(model.hidden) == 2:
                rows += ["HX", "XHX", "HAH", "HXF"]
            for row in rows:
                machine = model.post.through(row)
                self.assertEqual(machine.alphabet, AB)
                for text in [random_text(rng, 2) for _ in range(4)]:
                    expected = sorted(model.all_outs(row, text), key=by_order)
                    self.assertEqual(machine.outs(text), expected, (row, text))
                    self.assertEqual(model.post.outs(row, text), expected, (row, text))

    def test_random_rows_of_certain_machines(self):
        rng = random.Random(682)
        for _ in range(25):
            stations = {letter: Hidden([random_bounded(rng) for _ in range(3)]) for letter in "HK"}
            post = Post(AB, **stations)
            settled = [post.settled(world) for world in post.worlds()]
            for row in small_rows("HK", 3):
                machine = post.through(row)
                for text in ["", "a", random_text(rng, 3)]:
                    expected = sorted({out for each in settled for out in each.outs(row, text)}, key=by_order)
                    self.assertEqual([machine.outs(text), post.outs(row, text)], [expected, expected])

    def test_the_empty_row(self):
        for post in [Post(AB), Post(AB, A=hidden(3))]:
            for text in all_texts(AB, 2):
                self.assertEqual([post.outs("", text), post.through("").outs(text)], [[text], [text]])

    def test_one_hidden_station_twice_in_a_row(self):
        turn = Hidden([pairs(("a", "b"), ("b", "a")), pairs(("a", "a"), ("b", "b"))])
        post = Post(AB, A=turn, B=turn)
        self.assertEqual(post.outs("A", "a"), ["a", "b"])
        # The same machine stands at both places in each world.
        self.assertEqual([post.outs("AA", "a"), post.through("AA").outs("a")], [["a"], ["a"]])
        self.assertEqual([post.outs("AB", "a"), post.through("AB").outs("a")], [["a", "b"], ["a", "b"]])
        self.assertEqual([post.outs("ABA", "a"), post.through("ABA").outs("a")], [["a", "b"], ["a", "b"]])
        self.assertEqual([post.outs("ABAB", "a"), post.through("ABAB").outs("a")], [["a"], ["a"]])

    def test_64_worlds(self):
        post = Post(AB, A=Hidden([pairs(("a" * at, "a" * (at + 1)), ("a" * (at + 1), "b")) for at in range(8)]),
                    B=Hidden([pairs(("a", "b"), ("b", "b" * at)) for at in range(8)]))
        self.assertEqual(post.outs("A", "aa"), ["b", "aaa"])
        self.assertEqual(post.through("AA").outs("aa"), ["b"])
        self.assertEqual(post.through("AB").outs("aa"), ["b" * at for at in range(8)])
        self.assertEqual(post.through("AA").outs("a"), ["b"])
        self.assertEqual(post.through("AA").outs(""), ["b"])

    def test_many_signs(self):
        post = Post(AB, A=Hearer(Person(AB, "-ab", ["-", "ab", "ab"])), F=Fixed(pairs(("b" * 60, "b"), ("a" * 60, "a"))))
        self.assertEqual(post.outs("AF", "ab" * 30), ["a", "b"])
        self.assertEqual(post.outs("AAAAAAAAAAAAF", "ab" * 30), ["a", "b"])

    def test_errors(self):
        post = Post(AB, A=Plain(AB), B=hidden(2))
        for row, letter, place in [("C", "C", 0), ("ABx", "x", 2), ("AB-C", "-", 2)]:
            for call in [lambda row: post.through(row), lambda row: post.outs(row, "xyz")]:
                with self.assertRaises(UnknownLetter) as caught:
                    call(row)
                self.assertEqual([caught.exception.letter, caught.exception.place], [letter, place])
        with self.assertRaises(BadText) as caught:
            post.outs("AB", "ax")
        self.assertEqual(caught.exception.text, "ax")

    def test_later_changes(self):
        post = Post(AB, A=Hearer(SWAP))
        machine = post.through("AA")
        post["A"] = Hearer(LOSE)
        self.assertEqual([machine.outs("ab"), post.outs("AA", "ab")], [["ab"], ["aa"]])
        stations = {"A": Plain(AB)}
        post = Post(AB, **stations)
        stations["B"] = Plain(AB)
        self.assertEqual(post.members(), ["A"])


if __name__ == "__main__":
    unittest.main()
