"""Points 61, 62 and 64, and `carry` of point 63: plays of recordings."""

import random
import unittest

from talepost.errors import BadCount, BadText, TooMany, UnknownOutcome
from talepost.letters import Alphabet
from talepost.plays import Result, carry, ending, play, trace
from talepost.recordings import Recording
from talepost.stocks import Stock

from helpers import AB, ABK, SlowPlay, all_texts, random_notation, shape

OUTCOMES = ["done", "failed", "endless"]


def recording(notation, alphabet=AB):
    return Recording(alphabet, notation)


def values(result):
    return [result.outcome, result.text, result.caret, result.kept, result.presses]


def random_recordings(seed, many):
    rng = random.Random(seed)
    while many:
        try:
            yield recording(random_notation(rng))
            many -= 1
        except TooMany:
            pass


class PlayTest(unittest.TestCase):
    def plays(self, notation, text, *expected):
        self.assertEqual(values(play(recording(notation), text)), list(expected), (notation, text))

    def endless(self, notation, *texts):
        for text in texts:
            self.plays(notation, text, "endless", None, None, None, None)

    def test_random_plays(self):
        for each in random_recordings(61, 300):
            for text in all_texts(AB, 3):
                slow = SlowPlay(str(each), text)
                if slow.outcome == "endless":
                    self.endless(str(each), text)
                else:
                    left, caret, _, kept, _ = slow.page.state()
                    self.plays(str(each), text, slow.outcome, left, caret, kept, len(slow.rows))

    def test_done(self):
        self.plays("", "ab", "done", "ab", 0, "", 0)
        self.plays(">x'b", "ab-", "done", "ab-", 2, "", 3)
        self.plays("m>>k", "ab-", "done", "ab-", 2, "ab", 4)
        self.plays("w", "abab", "done", "abab", 4, "", 1)
        self.assertIsInstance(play(recording(""), ""), Result)

    def test_failed(self):
        self.plays(">", "", "failed", "", 0, "", 1)
        self.plays("m>kx'b=a>", "ab-", "failed", "ab-", 2, "a", 6)
        self.plays("/-x", "ab", "failed", "ab", 2, "", 1)
        self.plays("p>", "ab", "failed", "ab", 0, "", 1)

    def test_repeats(self):
        self.plays("(>)", "ab-", "done", "ab-", 3, "", 4)
        self.plays("(>)", "", "done", "", 0, "", 1)
        # What the failed key and the keys before it changed stays changed.
        self.plays("('b>x)'-", "ab-a", "done", "bab-b-", 6, "", 9)
        self.plays("(m>/b)k", "abaa", "failed", "abaa", 4, "", 7)
        self.plays("((=ax)>)", "aabab", "done", "bb", 2, "", 12)

    def test_a_failed_seek_in_a_repeat(self):
        self.plays("(/b'-)", "ab", "endless", None, None, None, None)
        self.plays("(/bx)'-", "abba", "done", "aa-", 3, "", 6)

    def test_choices(self):
        self.plays("[>|x]", "ab", "done", "ab", 1, "", 1)
        self.plays("[=b|x]", "ab", "done", "b", 0, "", 2)
        self.plays("[=b|]", "ab", "done", "ab", 0, "", 1)
        # B is played from where things stand then.
        self.plays("['b>=-|x]", "ab-", "done", "ba-", 2, "", 4)
        # A failure inside B is not taken by the choice.
        self.plays("[=b|=-]>", "ab", "failed", "ab", 0, "", 2)
        self.plays("[[=b|=-]|x]", "ab", "done", "b", 0, "", 3)
        self.plays("[=b|[=-|x]]", "ab", "done", "b", 0, "", 3)

    def test_a_repeat_in_a_choice_and_a_choice_in_a_repeat(self):
        # The repeat takes the failure, so B is not played.
        self.plays("[(>)|x]", "ab", "done", "ab", 2, "", 3)
        self.plays("[(>)=a|'-]", "ab", "done", "ab-", 3, "", 5)
        self.plays("([=ax|>])", "abab", "done", "bb", 2, "", 10)
        # B fails, and the repeat around the choice takes it.
        self.plays("([=a>|=b>])", "ab-", "done", "ab-", 2, "", 7)
        self.plays("([>|])", "ab", "endless", None, None, None, None)
        self.plays("[=b|(x)]", "ab", "done", "", 0, "", 4)

    def test_endless(self):
        texts = all_texts(AB, 3) + ["ab-" * 20]
        self.endless("('a)", *texts)
        self.endless("(w)", *texts)
        self.endless("((>))", *texts)
        self.endless("(=a)", "a", "ab", "a-")
        self.plays("(=a)", "ba", "done", "ba", 0, "", 1)
        self.plays("(=a)", "", "done", "", 0, "", 1)
        self.endless("(^)", "", "ab")
        self.endless("(m)", "", "ab")
        self.endless("(/a)", "a", "bba")
        self.plays("(/a)", "bb", "done", "bb", 2, "", 1)
        self.endless("([=a|=b])", "ab", "ba")
        self.endless(">((=a)w)", "ba")

    def test_endless_with_mark_keep_cut_and_paste(self):
        self.endless("m>k(p)", "a", "ab")
        self.endless("(m'ac)", "", "ab")
        self.endless("(mk)", "", "b")
        self.endless("m>k(mpc)", "a", "ab")
        # What is kept changes from round to round and comes back.
        self.endless("([^m'ak|m'-k]p)", "", "b-a")
        self.endless("([^m'ac|m'-c]p)", "", "b-a")
        self.endless("m>>c(m'bk[^|'-k]pp)", "ab", "ab-")
        self.plays("(mk)p", "", "endless", None, None, None, None)
        # The mark is dropped by the third sign, so this ends.
        self.plays("m('ak)", "", "done", "aaa", 3, "aa", 7)

    def test_a_round_that_passes_a_sign_is_not_endless(self):
        self.plays("(m>kp)", "ab", "done", "aabb", 4, "b", 10)
        self.plays("('b>)", "aa", "done", "babab", 5, "", 6)

    def test_situations_that_differ_only_in_the_opening(self):
        # A joint is pasted; at this opening nothing is kept, so the paste fails.
        self.plays("m>k>>([^mk|]p)", "-bb", "done", "-bb-", 4, "", 11)
        self.assertIn("-bb", ending(recording("m>k>>([^mk|]p)"), "done"))

    def test_many_presses(self):
        result = play(recording("(m>kp" + "'a" * 10 + ")"), "ab-" * 20)
        self.assertEqual([result.outcome, result.presses, len(result.text)], ["done", 14 * 60 + 2, 12 * 60])

    def test_bad_texts(self):
        for call in [play, carry]:
            for text in ["x", "abA", "ab "]:
                with self.assertRaises(BadText) as caught:
                    call(recording("(w)"), text)
                self.assertEqual(caught.exception.text, text)

    def test_the_recording_stays_as_it_was(self):
        each = recording("(m>kp)")
        play(each, "ab")
        list(trace(each, "ab"))
        self.assertEqual([str(each), each.all_keys()], ["(m>kp)", ["m", ">", "k", "p"]])


class TraceTest(unittest.TestCase):
    def test_random_traces(self):
        for each in random_recordings(62, 150):
            for text in all_texts(AB, 2) + ["ab-a"]:
                slow = SlowPlay(str(each), text)
                for most in [0, 1, 7, 60, 200]:
                    self.assertEqual(list(trace(each, text, most=most)), slow.rows[:most])
                self.assertEqual(list(trace(each, text)), slow.rows[:60])

    def test_rows(self):
        self.assertEqual(list(trace(recording("[=b|x]'-"), "ab")),
                         [(0, False, "ab", 0), (1, True, "b", 0), (2, True, "-b", 1)])
        self.assertEqual(list(trace(recording("(>x)"), "ab-")),
                         [(0, True, "ab-", 1), (1, True, "a-", 1), (0, True, "a-", 2), (1, False, "a-", 2)])
        self.assertEqual(list(trace(recording(""), "ab")), [])

    def test_endless(self):
        each = recording("('a)")
        for most in [0, 1, 60, 200]:
            rows = list(trace(each, "b", most=most))
            self.assertEqual(rows, [(0, True, "a" * at + "b", at) for at in range(1, most + 1)])
        self.assertEqual(len(list(trace(each, "b"))), 60)

    def test_the_number_of_rows(self):
        for most in [201, -1, 10 ** 39, -10 ** 39]:
            rows = trace(recording("('a)"), "b", most=most)
            with self.assertRaises(BadCount) as caught:
                list(rows)
            self.assertEqual(caught.exception.count, most)

    def test_errors_arise_when_it_is_iterated_over(self):
        rows = trace(recording("('a)"), "x", most=-1)
        with self.assertRaises(BadText) as caught:
            next(rows)
        self.assertEqual(caught.exception.text, "x")
        self.assertRaises(TypeError, trace, recording("x"), "a", 5)


class CarryTest(unittest.TestCase):
    def test_random_texts(self):
        for each in random_recordings(63, 150):
            for text in all_texts(AB, 3):
                slow = SlowPlay(str(each), text)
                left = {"done": slow.page.state()[0], "failed": text, "endless": None}[slow.outcome]
                self.assertEqual(carry(each, text), left)

    def test_a_failed_play_is_taken_back_as_a_whole(self):
        self.assertEqual(carry(recording("xx'b/-"), "aab"), "aab")
        self.assertEqual(carry(recording("xx'b[/-|]"), "aab"), "bb")
        self.assertEqual(carry(recording("(x)=a"), "aab"), "aab")
        self.assertEqual(carry(recording("x=b"), "aa"), "aa")
        self.assertIsNone(carry(recording("x('a)"), "aa"))
        self.assertEqual(carry(recording("x('a)"), ""), "")


class EndingTest(unittest.TestCase):
    def test_random_recordings(self):
        for each in random_recordings(64, 200):
            stocks = {outcome: ending(each, outcome) for outcome in OUTCOMES}
            for text in all_texts(AB, 4):
                found = [outcome for outcome in OUTCOMES if text in stocks[outcome]]
                self.assertEqual(found, [SlowPlay(str(each), text).outcome], (str(each), text))
            whole = stocks["done"] | stocks["failed"] | stocks["endless"]
            self.assertEqual(whole, Stock.every(AB))

    def test_all_texts_of_any_length(self):
        self.assertEqual(ending(recording("(=a)"), "endless"), shape("aS*"))
        self.assertEqual(ending(recording("(=a)"), "done"), shape("(J|b)S*") | Stock.listed(AB, [""]))
        self.assertEqual(ending(recording("(=a)"), "failed"), Stock.none(AB))
        self.assertEqual(ending(recording("/b/-"), "done"), shape("(J|a)*b(a|b)*JS*"))
        self.assertEqual(ending(recording("/b/-"), "failed"), Stock.every(AB) - shape("S*bS*JS*"))
        self.assertEqual(ending(recording(""), "done"), Stock.every(AB))
        for notation in ["('a)", "(w)", "((>))"]:
            self.assertEqual(ending(recording(notation), "endless"), Stock.every(AB))
        self.assertEqual(ending(recording("(xx)[x|]", ABK), "done"), Stock.every(ABK))
        self.assertEqual(ending(recording("(=a>=b>)=-"), "done"), shape("(ab)*a?JS*"))

    def test_the_mark_at_an_opening(self):
        # The cut brings the caret back to the mark, and whether that is at an opening decides.
        each = recording("/am>c^")
        self.assertEqual(ending(each, "done"), shape("((J|b)*J)?aS*"))
        self.assertEqual(ending(recording("(>)m'-c^"), "done"), shape("(S*J)?"))

    def test_unknown_outcomes(self):
        for outcome in ["", "Done", "done ", "end", "ended", "fail"]:
            with self.assertRaises(UnknownOutcome) as caught:
                ending(recording("(w)"), outcome)
            self.assertEqual(caught.exception.outcome, outcome)

    def test_many_situations(self):
        each = Recording(Alphabet("abcd"), "(m>>k>>m>>ppk[=ax|>]m>>c>p)")
        stocks = [ending(each, outcome) for outcome in OUTCOMES]
        rng = random.Random(65)
        for _ in range(50):
            text = "".join(rng.choice("-abcd") for _ in range(rng.randint(0, 30)))
            self.assertEqual([text in stock for stock in stocks],
                             [play(each, text).outcome == outcome for outcome in OUTCOMES])


if __name__ == "__main__":
    unittest.main()
