"""Points 59 and 60, with the keys of point 56: pages."""

import random
import unittest

from talepost.errors import BadKey, BadText
from talepost.letters import Alphabet
from talepost.pages import HOLD, Page

from helpers import AB, ABK, SlowPage

ODD = Alphabet("xwmp", "w")
KEYS = [">", "x", "w", "^", "m", "k", "c", "p"] + [kind + sign for kind in "'=/" for sign in "-ab"]


def state(page):
    return [page.text, page.caret, page.mark, page.kept, page.held]


def pressed(text, *keys, alphabet=AB):
    """The page after all these keys, and whether each of them works."""
    page = Page(alphabet, text)
    return page, [page.press(key) for key in keys]


class PageTest(unittest.TestCase):
    def after(self, text, keys, worked, result):
        page, works = pressed(text, *keys)
        self.assertEqual(works, worked)
        self.assertEqual(state(page), result)

    def test_new_pages(self):
        self.assertEqual(HOLD, 2)
        self.assertEqual(state(Page(AB, "ab-")), ["ab-", 0, None, "", None])
        self.assertEqual(state(Page(AB)), ["", 0, None, "", None])
        self.assertEqual(Page(AB).alphabet, AB)
        for text in ["x", "ab?", "A"]:
            with self.assertRaises(BadText) as caught:
                Page(AB, text)
            self.assertEqual(caught.exception.text, text)
        with self.assertRaises(AttributeError):
            Page(AB).held = ""
        self.assertLessEqual({"press", "held", "__init__"}, set(vars(Page)))

    def test_random_keys(self):
        rng = random.Random(59)
        for _ in range(400):
            text = "".join(rng.choice("-ab") for _ in range(rng.randint(0, 6)))
            page, slow = Page(AB, text), SlowPage(text)
            pool = rng.sample(KEYS, rng.randint(3, len(KEYS)))
            for _ in range(40):
                key = rng.choice(pool + ["m", "c", "k"])
                before = state(page)
                works = page.press(key)
                self.assertIs(works, slow.press(key))
                self.assertEqual(state(page), slow.state(), (text, key))
                if not works and key[0] != "/":
                    self.assertEqual(state(page), before)
                self.assertTrue(page.mark is None or page.caret - HOLD <= page.mark <= page.caret)

    def test_step_and_delete(self):
        self.after("ab", [">", ">", ">"], [True, True, False], ["ab", 2, None, "", None])
        self.after("ab-", [">", "x", "x", "x"], [True, True, True, False], ["a", 1, None, "", None])
        self.after("", ["x", ">"], [False, False], ["", 0, None, "", None])

    def test_insert(self):
        self.after("ab", [">", "'-", "'b"], [True] * 3, ["a-bb", 3, None, "", None])
        self.after("", ["'a", "'b"], [True] * 2, ["ab", 2, None, "", None])

    def test_look(self):
        self.after("ab", ["=a", "=b", "=-"], [True, False, False], ["ab", 0, None, "", None])
        self.after("a", [">", "=a"], [True, False], ["a", 1, None, "", None])
        self.after("", ["=a"], [False], ["", 0, None, "", None])

    def test_seek(self):
        self.after("ab-b", ["/b", "/b", ">", "/b", ">", "/b"], [True, True, True, True, True, False],
                   ["ab-b", 4, None, "", None])
        self.after("aab", ["/-"], [False], ["aab", 3, None, "", None])
        self.after("", ["/a"], [False], ["", 0, None, "", None])

    def test_a_failed_seek_passes_all_signs(self):
        self.after("aa", ["m", "/b"], [True, False], ["aa", 2, 0, "", "aa"])
        self.after("aaa", ["m", "/b"], [True, False], ["aaa", 3, None, "", None])
        self.after("aaa", [">", "m", "/b"], [True, True, False], ["aaa", 3, 1, "", "aa"])
        # A seek that works may drop the mark, too.
        self.after("aaab", ["m", "/b", "k"], [True, True, False], ["aaab", 3, None, "", None])
        self.after("aab", ["m", "/b", "k"], [True] * 3, ["aab", 2, 0, "aa", "aa"])

    def test_word(self):
        self.after("ab-a", ["w", "w", ">", "w", "w"], [True] * 5, ["ab-a", 4, None, "", None])
        self.after("", ["w"], [True], ["", 0, None, "", None])
        self.after("-a", ["w"], [True], ["-a", 0, None, "", None])
        self.after("aba-", ["m", "w"], [True] * 2, ["aba-", 3, None, "", None])
        self.after("ab-", ["m", "w"], [True] * 2, ["ab-", 2, 0, "", "ab"])

    def test_opening(self):
        self.after("a-b", ["^", ">", "^", ">", "^", ">", "^"], [True, True, False, True, True, True, False],
                   ["a-b", 3, None, "", None])
        self.after("", ["^", "'a", "^", "'-", "^"], [True, True, False, True, True], ["a-", 2, None, "", None])

    def test_mark_keep_and_cut(self):
        self.after("ab", ["k", "c"], [False, False], ["ab", 0, None, "", None])
        self.after("ab", ["m", "k", "c"], [True] * 3, ["ab", 0, 0, "", ""])
        self.after("ab-", ["m", ">", ">", "k"], [True] * 4, ["ab-", 2, 0, "ab", "ab"])
        self.after("ab-", [">", "m", ">", ">", "c"], [True] * 5, ["a", 1, 1, "b-", ""])
        # Keep and cut with nothing between the mark and the caret empty what was kept.
        self.after("ab", ["m", ">", "k", "m", "k", "p"], [True] * 5 + [False], ["ab", 1, 1, "", ""])
        # The previous mark is forgotten.
        self.after("ab", ["m", ">", "m", ">", "k"], [True] * 5, ["ab", 2, 1, "b", "b"])
        # The mark stays after a cut, so signs that follow are held by it.
        self.after("abb", ["m", ">", "c", ">", "k", "c", "c"], [True] * 7, ["b", 0, 0, "", ""])

    def test_two_signs_are_held_and_three_are_not(self):
        self.after("abab", ["m", ">", ">"], [True] * 3, ["abab", 2, 0, "", "ab"])
        self.after("abab", ["m", ">", ">", ">", "k"], [True] * 4 + [False], ["abab", 3, None, "", None])
        # An insert at the mark stands between the mark and the caret.
        self.after("ab", [">", "m", "'-"], [True] * 3, ["a-b", 2, 1, "", "-"])
        self.after("ab", ["m", "'a", "'b", "'-", "c"], [True] * 4 + [False], ["ab-ab", 3, None, "", None])
        self.after("ab", ["m", ">", "'b", "k"], [True] * 4, ["abb", 2, 0, "ab", "ab"])
        # A delete ahead of the caret does not move the mark.
        self.after("aba", ["m", ">", ">", "x", "k"], [True] * 5, ["ab", 2, 0, "ab", "ab"])

    def test_paste(self):
        self.after("ab", ["p"], [False], ["ab", 0, None, "", None])
        self.after("ab-", ["m", ">", ">", "k", ">", "p"], [True] * 6, ["ab-ab", 5, None, "ab", None])
        self.after("ab", ["m", ">", ">", "c", "p", "p"], [True] * 6, ["abab", 4, None, "ab", None])
        self.after("ab", ["m", ">", ">", "c", "p"], [True] * 5, ["ab", 2, 0, "ab", "ab"])
        # The first pasted sign stays within the mark, the second one drops it, and the paste goes on.
        self.after("ab", ["m", ">", ">", "k", "m", ">", "'a", "p"], [True] * 5 + [False, True, True],
                   ["abaab", 5, None, "ab", None])
        # What is kept stays when the mark is dropped.
        self.after("abbb", ["m", ">", "k", ">", ">", "p"], [True] * 6, ["abbab", 4, None, "a", None])

    def test_letters_that_are_also_keys(self):
        page, works = pressed("xw-m", "=x", "x", "w", "=-", "'p", "/m", "m", "=p", "p", "k", alphabet=ODD)
        self.assertEqual(works, [True, True, True, True, True, True, True, False, False, True])
        self.assertEqual(state(page), ["wp-m", 3, 3, "", ""])

    def test_bad_keys(self):
        bad = ["", ">>", "xx", "a", "-", "b", "'", "=", "/", "'k", "=?", "/A", "'ab", "''a", "(", ")", "[", "|", "]", " ", "> ",
               "M", "mk", "' ", "x>", "'a>", "v", "\n"]
        for key in bad:
            page, _ = pressed("ab-", "m", ">", "k")
            with self.subTest(key=key), self.assertRaises(BadKey) as caught:
                page.press(key)
            self.assertEqual(caught.exception.key, key)
            self.assertEqual(state(page), ["ab-", 1, 0, "a", "a"])
        self.assertIs(Page(ABK).press("'k"), True)
        for key in KEYS:
            self.assertIsInstance(Page(AB, "ab").press(key), bool)


if __name__ == "__main__":
    unittest.main()
