"""Points 2 to 6: errors, alphabets, texts, kinds and names of sets."""

import inspect
import unittest

from talepost import errors
from talepost.errors import BadAlphabet, BadSet, BadText, Mixed, TaleError
from talepost.letters import Alphabet, kind_after, shortlex

from helpers import AB

ARGUMENTS = {
    "Mixed": "", "BadAlphabet": "part", "BadText": "text", "BadSet": "name", "BadTable": "place", "BadShape": "place",
    "Uncertain": "text", "BadPair": "index", "UnknownSign": "sign", "BadCount": "count", "BadPerson": "part",
    "BadLetter": "letter", "UnknownLetter": "letter place", "TooMany": "most", "BadName": "name", "BadForm": "form",
    "UnknownPlace": "place", "DuplicateName": "name", "Conflict": "name other", "UnknownName": "name",
    "UnknownKind": "kind", "TakenShort": "name", "BadStage": "what", "BadRule": "stage what", "BadMenu": "index",
    "UnknownRule": "index", "BadRecording": "place", "BadKey": "key", "UnknownOutcome": "outcome",
    "UnknownWorld": "world", "BadPattern": "place", "NoWorld": "fewest", "UnknownEntry": "number", "NoPlan": "",
    "BadIndex": "at", "TooLong": "limit", "Melted": "out one other", "NothingToUndo": "", "NothingToRedo": "",
    "Refused": "index", "BadLine": "line", "BadEntry": "index", "Unbounded": "index"}


class ErrorsTest(unittest.TestCase):
    def test_all_errors(self):
        classes = {name: value for name, value in vars(errors).items() if inspect.isclass(value)}
        self.assertEqual(set(classes), set(ARGUMENTS) | {"TaleError"})
        self.assertEqual(TaleError.__bases__, (ValueError,))
        for name, words in ARGUMENTS.items():
            self.assertEqual(classes[name].__bases__, (TaleError,), name)
            values = {word: f"value {at}" for at, word in enumerate(words.split())}
            by_place = classes[name](*values.values())
            by_name = classes[name](**values)
            self.assertEqual(vars(by_place), values)
            self.assertEqual(vars(by_name), values)
            self.assertIsInstance(str(by_name), str)


class AlphabetTest(unittest.TestCase):
    def test_attributes(self):
        alphabet = Alphabet("tnor", "o")
        self.assertEqual([alphabet.letters, alphabet.vowels, alphabet.consonants, alphabet.signs],
                         ["nort", "o", "nrt", "-nort"])
        self.assertEqual([Alphabet.JOINT, Alphabet.MOST], ["-", 4])
        self.assertEqual([Alphabet("z").vowels, Alphabet("z").signs], ["", "-z"])
        self.assertEqual(Alphabet("ba", "ba").vowels, "ab")
        self.assertEqual(Alphabet("ba", "ba").consonants, "")

    def test_bad_letters_come_first(self):
        for letters in ["", "abcde", "aa", "aB", "a-", "a1", "aab", "abcda", "\u00e4"]:
            with self.assertRaises(BadAlphabet) as caught:
                Alphabet(letters, "??")
            self.assertEqual(caught.exception.part, "letters")

    def test_bad_vowels(self):
        for vowels in ["aa", "c", "-", "abc", "A"]:
            with self.assertRaises(BadAlphabet) as caught:
                Alphabet("ab", vowels)
            self.assertEqual(caught.exception.part, "vowels")

    def test_equal(self):
        self.assertEqual(Alphabet("ab", "a"), Alphabet("ba", "a"))
        self.assertEqual(Alphabet("abc", "ab"), Alphabet("cab", "ba"))
        self.assertNotEqual(Alphabet("ab", "a"), Alphabet("ab", "b"))
        self.assertNotEqual(Alphabet("ab"), Alphabet("abc"))
        self.assertFalse(Alphabet("ab") == "ab")

    def test_texts(self):
        for text in ["", "-", "a-b", "--", "ab" * 30]:
            self.assertIs(AB.is_text(text), True)
            self.assertIsNone(AB.check(text))
        for text in ["c", "a b", "A", "ab\n", "a" * 59 + "?"]:
            self.assertIs(AB.is_text(text), False)
            with self.assertRaises(BadText) as caught:
                AB.check(text)
            self.assertEqual(caught.exception.text, text)

    def test_signs_of(self):
        alphabet = Alphabet("nort", "o")
        named = {"all": "-nort", "letters": "nort", "vowels": "o", "consonants": "nrt", "joints": "-",
                 "[-]": "-", "[-o]": "-o", "[nort]": "nort", "[-nort]": "-nort"}
        for name, signs in named.items():
            self.assertEqual(alphabet.signs_of(name), signs)
        self.assertEqual(Alphabet("ab").signs_of("vowels"), "")
        self.assertEqual(Alphabet("ab", "ab").signs_of("consonants"), "")
        for name in ["", "[]", "[", "]", "[o", "o]", "[on]", "[oo]", "[a]", "[o-]", "[n o]", "[n,o]", "vowel", "All",
                     " all", "joint", "o", "[[o]]", "(o)"]:
            with self.assertRaises(BadSet) as caught:
                alphabet.signs_of(name)
            self.assertEqual(caught.exception.name, name)

    def test_shortlex(self):
        listed = ["b", "", "ab", "a-", "-", "b", "aaa", "a", ""]
        before = list(listed)
        self.assertEqual(shortlex(listed), ["", "-", "a", "b", "a-", "ab", "aaa"])
        self.assertEqual(listed, before)
        self.assertEqual(shortlex([]), [])
        self.assertEqual(shortlex(["?", "C", "zz"]), ["?", "C", "zz"])
        result = shortlex(listed)
        result.append("x")
        self.assertEqual(len(shortlex(listed)), 7)

    def test_kind_after(self):
        self.assertEqual([kind_after(text) for text in ["", "-", "a-", "a", "-a", "b-b"]],
                         ["start", "joint", "joint", "letter", "letter", "letter"])

    def test_mixed_has_nothing(self):
        self.assertEqual(vars(Mixed()), {})


if __name__ == "__main__":
    unittest.main()
