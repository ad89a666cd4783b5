"""Points 49 to 51: stages, their written forms and their machines."""

import itertools
import random
import unittest

from talepost.errors import BadStage, BadText
from talepost.letters import Alphabet
from talepost.machines import Machine
from talepost.stages import Add, Drop, LastDrop, Once, Stage, Write, read_stage
from talepost.stocks import Stock
from talepost.sure import is_certain

from helpers import AB, ABK, all_texts

NAMES = ["all", "letters", "vowels", "consonants", "joints", "[-]", "[a]", "[-b]", "[-ab]"]
SETS = {"all": "-ab", "letters": "ab", "vowels": "a", "consonants": "b", "joints": "-", "[-]": "-", "[a]": "a",
        "[-b]": "-b", "[-ab]": "-ab"}
WITHOUT_VOWELS = Alphabet("ab")


def numbered(text, each):
    """The pairs (number, sign) of a text: with `each`, a joint has the number 0 and the numbers begin anew."""
    if not each:
        return list(enumerate(text, start=1))
    marked = []
    for part in text.split("-"):
        marked += list(enumerate(part, start=1)) + [(0, "-")]
    return marked[:-1]


def slow_drop(text, signs, after, each, but_last):
    marked = numbered(text, each)
    kept = ""
    for at, (number, sign) in enumerate(marked):
        stays = but_last and (at == len(marked) - 1 or (each and marked[at + 1][1] == "-"))
        if stays or sign not in signs or number <= after:
            kept += sign
    return kept


def every_drop(alphabet=AB, names=NAMES):
    for name, after, each, but_last in itertools.product(names, range(4), [False, True], [False, True]):
        kind = LastDrop if but_last else Drop
        written = f"drop {name}" + (f" after {after}" if after else "") + (" each" if each else "") \
            + (" but last" if but_last else "")
        yield kind(alphabet, name, after=after, each=each), written, (after, each, but_last)


class StageTest(unittest.TestCase):
    def check_machine(self, stage, texts):
        machine = stage.machine()
        self.assertIsInstance(machine, Machine)
        self.assertEqual(machine.alphabet, stage.alphabet)
        for text in texts:
            self.assertEqual(machine.outs(text), [stage(text)], (str(stage), text))
        self.assertEqual(machine.domain(), Stock.every(stage.alphabet))
        self.assertTrue(is_certain(machine))

    def test_drops(self):
        rng = random.Random(49)
        for stage, written, (after, each, but_last) in every_drop():
            texts = all_texts(AB, 5) + ["".join(rng.choice("-ab") for _ in range(60)) for _ in range(2)]
            for text in texts:
                expected = slow_drop(text, SETS[stage.name], after, each, but_last)
                self.assertEqual(stage(text), expected, (written, text))
            self.check_machine(stage, all_texts(AB, 2) + rng.sample(texts, 3))
            self.assertEqual(str(stage), written)

    def test_drop_examples(self):
        cases = [("drop vowels", "aba-ab", "b-b"), ("drop all after 2", "abab", "ab"), ("drop all after 2", "a", "a"),
                 ("drop all after 3", "-a-a-a", "-a-"), ("drop joints", "--a-", "a"), ("drop joints after 1", "--a-", "-a"),
                 ("drop all after 1 each", "-ab--ba-", "-a--b-"), ("drop joints each", "-a--", "-a--"),
                 ("drop all each", "ab-a", "-"), ("drop letters after 2 each", "aba-ba-bbb", "ab-ba-bb"),
                 ("drop all but last", "abab", "b"), ("drop all but last", "ab-", "-"), ("drop all but last", "", ""),
                 ("drop vowels but last", "aba", "ba"), ("drop vowels but last", "abaa-", "b-"),
                 ("drop vowels each but last", "aa-aba-a", "a-ba-a"), ("drop all each but last", "ab--ba-", "b--a-"),
                 ("drop all after 1 each but last", "abab-bb", "ab-bb"), ("drop all after 1 but last", "abab-bb", "ab")]
        for written, text, result in cases:
            self.assertEqual(read_stage(AB, written)(text), result, (written, text))

    def test_write(self):
        for sign, name in itertools.product("-ab", NAMES):
            stage = Write(AB, sign, name)
            self.assertEqual(str(stage), f"write {sign} for {name}")
            for text in all_texts(AB, 4):
                self.assertEqual(stage(text), "".join(sign if each in SETS[name] else each for each in text))
            self.check_machine(stage, all_texts(AB, 3))

    def test_once(self):
        for name in NAMES:
            stage = Once(AB, name)
            self.assertEqual(str(stage), f"once {name}")
            for text in all_texts(AB, 5):
                kept = "".join(sign for before, sign in zip("?" + text, text) if before != sign or sign not in SETS[name])
                self.assertEqual(stage(text), kept)
            self.check_machine(stage, all_texts(AB, 4))
        self.assertEqual(Once(AB, "all")("aaa--bb-"), "a-b-")
        self.assertEqual(Once(AB, "joints")("--aa--"), "-aa-")
        self.assertEqual(Once(AB, "vowels")("aaabbaa"), "abba")

    def test_add(self):
        for sign in "-ab":
            stage = Add(AB, sign)
            self.assertEqual(str(stage), f"add {sign}")
            for text in all_texts(AB, 3):
                self.assertEqual(stage(text), text + sign)
            self.check_machine(stage, all_texts(AB, 3))

    def test_empty_sets(self):
        for written in ["drop vowels", "drop vowels after 1 each but last", "write a for vowels", "once vowels"]:
            stage = read_stage(WITHOUT_VOWELS, written)
            self.assertEqual([stage(text) for text in ["", "-", "aabb--"]], ["", "-", "aabb--"])
            self.check_machine(stage, all_texts(WITHOUT_VOWELS, 3))

    def test_classes(self):
        self.assertEqual(Drop.__bases__, (Stage,))
        self.assertEqual(LastDrop.__bases__, (Drop,))
        self.assertEqual([kind.__bases__ for kind in [Write, Once, Add]], [(Stage,)] * 3)
        self.assertEqual(Stage(AB).alphabet, AB)
        for kind in [Drop, LastDrop, Write, Once, Add]:
            self.assertLessEqual({"__call__", "__str__", "machine"}, set(vars(kind)))
        for stage in [Drop(AB, "all"), LastDrop(AB, "all"), Write(AB, "a", "all"), Once(AB, "all"), Add(AB, "a")]:
            self.assertEqual(stage.alphabet, AB)
        self.assertRaises(TypeError, Drop, AB, "all", 1)

    def test_bad_texts(self):
        for written in ["drop all", "drop all but last", "write a for all", "once all", "add a"]:
            for text in ["x", "ab?", "A", "a b"]:
                with self.assertRaises(BadText) as caught:
                    read_stage(AB, written)(text)
                self.assertEqual(caught.exception.text, text)

    def refused(self, what, make, *args, **more):
        with self.subTest(make=make, args=args, more=more), self.assertRaises(BadStage) as caught:
            make(*args, **more)
        self.assertEqual(caught.exception.what, what)

    def test_bad_stages(self):
        for sign in ["", "x", "ab", "A", " "]:
            self.refused("sign", Write, AB, sign, "?")
            self.refused("sign", Add, AB, sign)
        for name in ["", "All", "letter", "[]", "[ba]", "[aa]", "[x]", "[a", "a]", "a", "[a b]", "[a,b]", "[all]"]:
            self.refused("set", Write, AB, "a", name)
            self.refused("set", Once, AB, name)
            for kind in [Drop, LastDrop]:
                self.refused("set", kind, AB, name, after=9)
                self.refused("set", kind, AB, name)
        for after in [-1, 4, 10 ** 20, "1", None, True]:
            for kind in [Drop, LastDrop]:
                self.refused("after", kind, AB, "all", after=after)
                self.refused("after", kind, AB, "all", after=after, each=True)


class ReadStageTest(unittest.TestCase):
    def refused(self, what, written, alphabet=AB):
        with self.subTest(written=written), self.assertRaises(BadStage) as caught:
            read_stage(alphabet, written)
        self.assertEqual(caught.exception.what, what)

    def test_all_written_forms(self):
        stages = [stage for stage, _, _ in every_drop()]
        stages += [Write(AB, sign, name) for sign in "-ab" for name in NAMES]
        stages += [Once(AB, name) for name in NAMES] + [Add(AB, sign) for sign in "-ab"]
        for stage in stages:
            found = read_stage(AB, str(stage))
            self.assertEqual([type(found), str(found), found.alphabet], [type(stage), str(stage), AB])
            for text in ["", "abab", "-aab--bba-"]:
                self.assertEqual(found(text), stage(text))

    def test_no_form(self):
        for written in ["", " ", "keep", "drop", "once", "add", "write", "write a", "write a for", "write a all",
                        "write a to all", "write a for all all", "write a for all ", "add a a", "once all all", "Drop all",
                        " drop all", "drop all ", "drop all each each", "drop all after", "drop all after 1 2",
                        "drop all each after 1", "drop all but", "drop all last", "drop all but last each", "drop but last",
                        "drop all but last after 1", "drop all but  last", "drop all  each", "drop all after 1  each",
                        "drop all after but last", "drop all but last but last", "drop all each but", "dropall",
                        "drop all  but last", "write a  for all", "drop all after 1 each each", "drop ? after",
                        "drop all after each each each", "once", "drop all; drop all", "drop all each but last last"]:
            self.refused("text", written)

    def test_the_first_wrong_part(self):
        for written in ["drop all after each", "drop all after 0", "drop all after 4", "drop all after 11", "drop all after ",
                        "drop all after each each", "drop all after each but last", "drop all after but but last",
                        "drop all after after", "drop [a] after 01 each", "drop all after last but last",
                        "drop all after 0 each but last", "drop all after -1", "drop all after 1; each"]:
            self.refused("after", written)
        for written in ["drop  after 1", "drop ", "drop after", "drop each", "drop but", "drop ? after 0", "drop [ba] after each",
                        "drop after after 1", "drop each each", "drop but but last", "once ", "once allx", "drop  but last",
                        "write a for x", "write a for ", "drop each after 0 each but last"]:
            self.refused("set", written)
        for written in ["write x for all", "write  for all", "write ab for ?", "add ", "add x", "add ab", "write for for all"]:
            self.refused("sign", written)

    def test_words_that_are_names(self):
        # A set is only known by its name, so the words of the forms are no names.
        self.refused("text", "drop but last each")
        self.refused("set", "drop last")
        self.refused("set", "drop after each")
        self.refused("set", "drop after but last")

    def test_other_alphabets(self):
        self.assertEqual(read_stage(ABK, "write k for [-a]")("a-bk"), "kkbk")
        self.refused("sign", "write k for [-a]")
        self.refused("set", "once [ak]")
        self.assertEqual(read_stage(ABK, "once [ak]").alphabet, ABK)


if __name__ == "__main__":
    unittest.main()
