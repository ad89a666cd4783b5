"""Points 56 to 58: recordings and their notation; point 63: the machine of a recording."""

import itertools
import random
import unittest

from talepost.errors import BadRecording, Mixed, TooMany
from talepost.letters import Alphabet
from talepost.plays import carry
from talepost.recordings import Recording
from talepost.sure import is_certain

from helpers import AB, ABK, OTHER, SlowPlay, all_texts, random_notation

ODD = Alphabet("xwmp", "w")


class Wrong(Exception):
    pass


class SlowReader:
    """Reads a notation by the form of its groups; `at` is where it stops."""

    def __init__(self, notation, signs):
        self.notation, self.signs, self.at, self.many = notation, signs, 0, 0
        self.sequence(0)
        if self.at < len(notation):
            raise Wrong()

    def ahead(self):
        return self.notation[self.at:self.at + 1]

    def take(self, allowed):
        if self.ahead() == "" or self.ahead() not in allowed:
            raise Wrong()
        self.at += 1
        return self.notation[self.at - 1]

    def item(self, depth):
        if depth == 4 and self.ahead() in ("(", "["):
            raise Wrong()
        sign = self.take(">xw^mkcp'=/([")
        if sign == "(":
            self.item(depth + 1)
            self.sequence(depth + 1)
            self.take(")")
        elif sign == "[":
            self.item(depth + 1)
            self.sequence(depth + 1)
            self.take("|")
            self.sequence(depth + 1)
            self.take("]")
        else:
            self.many += 1
            if sign in "'=/":
                self.take(self.signs)

    def sequence(self, depth):
        while self.ahead() and self.ahead() not in ")|]":
            self.item(depth)


def slow_place(notation, signs):
    """The place of the first wrong character, or None."""
    reader = SlowReader.__new__(SlowReader)
    try:
        reader.__init__(notation, signs)
    except Wrong:
        return reader.at
    return None


class NotationTest(unittest.TestCase):
    def wrong(self, notation, place, alphabet=AB):
        with self.subTest(notation=notation), self.assertRaises(BadRecording) as caught:
            Recording(alphabet, notation)
        self.assertEqual(caught.exception.place, place, notation)

    def test_keys(self):
        recording = Recording(AB, ">x'-=a/bw^mkcp")
        self.assertEqual(recording.all_keys(), [">", "x", "'-", "=a", "/b", "w", "^", "m", "k", "c", "p"])
        self.assertEqual([len(recording), str(recording)], [11, ">x'-=a/bw^mkcp"])
        nested = Recording(AB, "([>(x)|'a]w)[=a|]")
        self.assertEqual(nested.all_keys(), [">", "x", "'a", "w", "=a"])
        self.assertEqual(len(nested), 5)
        self.assertEqual(nested.alphabet, AB)
        self.assertEqual([Recording.MOST_KEYS, Recording.MOST_DEPTH], [24, 4])

    def test_the_empty_recording(self):
        empty = Recording(AB, "")
        self.assertEqual([len(empty), str(empty), empty.all_keys()], [0, "", []])
        self.assertEqual([carry(empty, text) for text in ["", "ab-"]], ["", "ab-"])
        self.assertEqual([empty.machine().outs(text) for text in ["", "ab-"]], [[""], ["ab-"]])

    def test_all_short_notations(self):
        for length in range(6):
            for signs in itertools.product("(>)[|]", repeat=length):
                self.compare("".join(signs), AB)
        for length in range(5):
            for signs in itertools.product(">'a[|](X", repeat=length):
                self.compare("".join(signs), AB)

    def compare(self, notation, alphabet):
        place = slow_place(notation, alphabet.signs)
        if place is None:
            self.assertEqual(str(Recording(alphabet, notation)), notation)
        else:
            with self.assertRaises(BadRecording) as caught:
                Recording(alphabet, notation)
            self.assertEqual(caught.exception.place, place, notation)

    def test_random_notations(self):
        rng = random.Random(56)
        for _ in range(2000):
            written = random_notation(rng)
            at = rng.randrange(len(written) + 1)
            for notation in [written, written[:at], written[:at] + rng.choice(">x'=/()[|]ab-k") + written[at:]]:
                try:
                    self.compare(notation, AB)
                except TooMany:
                    self.assertIsNone(slow_place(notation, AB.signs))
                    self.assertGreater(SlowReader(notation, AB.signs).many, 24)

    def test_wrong_characters(self):
        self.wrong("a", 0)
        self.wrong("> >", 1)
        self.wrong(">X", 1)
        self.wrong(">\n", 1)
        self.wrong("'", 1)
        self.wrong("''", 1)
        self.wrong("'k", 1)
        self.wrong("=k", 1)
        self.wrong("/(", 1)
        self.wrong("'(", 1)
        self.wrong("=ab", 2)
        self.assertEqual(Recording(ODD, "'xx=w/m'p").all_keys(), ["'x", "x", "=w", "/m", "'p"])
        self.wrong("'k", 1, ODD)

    def test_wrong_groups(self):
        for notation, place in [(")", 0), ("|", 0), ("]", 0), (">)", 1), ("()", 1), ("[|]", 1), ("[]", 1), ("[>]", 2),
                                ("(>|>)", 2), ("(>]", 2), ("[>)", 2), ("[>|)", 3), ("[>||]", 3), ("[>|>|]", 4), ("(>))", 3),
                                ("[(>|)]", 3), ("([>)|>]", 3), ("(())", 2), ("([|>])", 2), ("[>|(])", 4), ("[>|()]", 4)]:
            self.wrong(notation, place)
        for notation in ["[>|]", "([>|])", "[(>)|(x)]", "[[>|]|[x|]]", "[>|[x|]]"]:
            self.assertEqual(str(Recording(AB, notation)), notation)

    def test_early_ends(self):
        for notation in ["'", ">=", "/", "(", "[", "(>", "[>", "[>|", "[>|x", "(>'", "([>|]", "(>)=", "((((", "((((>)))"]:
            self.wrong(notation, len(notation))

    def test_four_open_groups_and_five(self):
        for notation in ["((((>))))", "[([(>)|])|]", "[>|[>|[>|[>|]]]]", "(>)(>)(>)(>)(>)", "[(>)|(((x)))]"]:
            self.assertEqual(str(Recording(AB, notation)), notation)
        self.wrong("(((((>)))))", 4)
        self.wrong("(((([>|]))))", 4)
        self.wrong("[>|[>|[>|[>|(>)]]]]", 12)
        self.wrong("[>|(((([", 6)

    def test_24_keys_and_25(self):
        for notation in [">" * 24, "'a" * 24, "(" + "=a" * 12 + ")[" + ">" * 6 + "|" + "x" * 6 + "]"]:
            self.assertEqual(len(Recording(AB, notation)), 24)
            for longer in [notation + "w", "w" + notation, notation + "(w)"]:
                with self.assertRaises(TooMany) as caught:
                    Recording(AB, longer)
                self.assertEqual(caught.exception.most, 24)
        # Any other error comes first.
        self.wrong(">" * 30 + ")", 30)
        self.wrong(">" * 30 + "'", 31)
        self.wrong("(" + ">" * 30, 31)
        self.wrong(">" * 30 + "?>", 30)

    def test_equal(self):
        one = Recording(AB, "(>)")
        self.assertTrue(one == Recording(AB, "(>)"))
        for other in [Recording(AB, "(x)"), Recording(OTHER, "(>)"), "(>)", None]:
            self.assertFalse(one == other)
        self.assertFalse(Recording(AB, "") == Recording(AB, ">"))

    def test_sum(self):
        one, other = Recording(AB, "[>|]"), Recording(AB, "'a(x)")
        both = one + other
        self.assertEqual([str(both), both.all_keys(), str(one), str(other)],
                         ["[>|]'a(x)", [">", "'a", "x"], "[>|]", "'a(x)"])
        self.assertEqual(str(Recording(AB, "") + one), "[>|]")
        self.assertEqual(len(Recording(AB, ">" * 12) + Recording(AB, "x" * 12)), 24)
        with self.assertRaises(TooMany) as caught:
            Recording(AB, ">" * 12) + Recording(AB, "x" * 13)
        self.assertEqual(caught.exception.most, 24)
        self.assertRaises(Mixed, lambda: one + Recording(OTHER, "x"))
        # Different alphabets count before the number of keys.
        self.assertRaises(Mixed, lambda: Recording(AB, ">" * 24) + Recording(OTHER, "x" * 24))

    def test_a_returned_list_is_new(self):
        recording = Recording(AB, ">x")
        recording.all_keys().append("w")
        self.assertEqual(recording.all_keys(), [">", "x"])

    def test_methods_stand_in_the_class(self):
        listed = "__init__ __eq__ __add__ __len__ __str__ all_keys machine MOST_KEYS MOST_DEPTH"
        self.assertLessEqual(set(listed.split()), set(vars(Recording)))


class MachineTest(unittest.TestCase):
    def test_random_recordings(self):
        rng = random.Random(63)
        texts = all_texts(AB, 4)
        for _ in range(120):
            notation = random_notation(rng)
            if SlowReader(notation, AB.signs).many > 24:
                continue
            machine = Recording(AB, notation).machine()
            self.assertTrue(is_certain(machine), notation)
            for text in texts:
                slow = SlowPlay(notation, text)
                left = {"done": slow.page.state()[0], "failed": text, "endless": None}[slow.outcome]
                self.assertEqual(machine.outs(text), [] if left is None else [left], (notation, text))

    def test_long_texts(self):
        cases = [("(/ax)", lambda text: text.replace("a", "")), ("(>)'b", lambda text: text + "b"),
                 ("([=ax'b|>])", lambda text: text.replace("a", "b")),
                 ("(m>kp)", lambda text: "".join([sign * 2 for sign in text])),
                 ("(m>>c'-p)", None), ("/->/->/-x", None), ("([^m>k/-p|>])", None)]
        rng = random.Random(64)
        for notation, expected in cases:
            recording = Recording(AB, notation)
            machine = recording.machine()
            for length in [0, 1, 2, 3, 20, 59, 60]:
                text = "".join(rng.choice("-ab") for _ in range(length))
                self.assertEqual(machine.outs(text), [carry(recording, text)], (notation, text))
                if expected:
                    self.assertEqual(carry(recording, text), expected(text))

    def test_failure_at_the_very_end(self):
        # All signs are deleted, and then it fails if no b stood there: the text is as it was.
        recording = Recording(AB, "([=bm>k|x])p")
        machine = recording.machine()
        self.assertEqual([machine.outs(text) for text in ["aaa-", "aba", ""]], [["aaa-"], ["bb"], [""]])

    def test_other_alphabets(self):
        for alphabet in [Alphabet("z"), ABK, Alphabet("abcd", "a")]:
            for notation in ["(m>>k>p)", "([^'z|x])" if alphabet.letters == "z" else "([^'a|x])"]:
                recording = Recording(alphabet, notation)
                machine = recording.machine()
                for text in all_texts(alphabet, 3):
                    self.assertEqual(machine.outs(text), [carry(recording, text)])


if __name__ == "__main__":
    unittest.main()
