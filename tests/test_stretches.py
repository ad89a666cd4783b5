"""Points 73 to 76: rows of any length."""

import itertools
import random
import re
import unittest
import unittest.mock

from talepost.errors import BadPattern, BadText, Mixed, TooMany, Uncertain, UnknownLetter
from talepost.lots import Lot
from talepost.machines import Machine
from talepost.patterns import after_letter
from talepost.people import Person
from talepost.posts import Post
from talepost.rules import Rule
from talepost.stations import Fixed, Hearer, Hidden, Plain
from talepost.stocks import Stock
from talepost.stretches import chief_rows, least_row, matches, pattern_machine, pattern_melted, pattern_same, rows_of
from talepost.stretches import safe_texts
from talepost.sure import melted

from helpers import AB, ABK, OTHER, Model, all_texts, by_order, least_pair, pairs, random_text, shape, small_rows

EVERY = Stock.every(AB)
PATTERNS = ["", "A", "F", "?", "*", "A?", "*F", "F*", "*F*", "?*", "**", "?F?", "*?", "AHA", "H*H", "*H?", "F*F*", "P?H", "*A*"]


def person(hears, says=("-", "a", "b")):
    return Hearer(Person(AB, hears, list(says)))


def rule(written):
    return Fixed(Rule.read(AB, written).machine())


# Two people, a fixed station, a plain one and a hidden one.
POST = Post(AB, A=person("-ba"), B=person("-aa"), F=rule("drop joints"), P=Plain(AB),
            H=Hidden([Machine.identity(AB), Rule.read(AB, "once all").machine()]))
ALONE = Post(AB, F=rule("drop joints"), P=Plain(AB))


def as_regex(pattern, people):
    signs = {"?": f"[{people}]" if people else "(?!)", "*": f"[{people}]*" if people else ""}
    return re.compile("".join(signs.get(sign, sign) for sign in pattern))


def fits(pattern, row, people="AB"):
    return as_regex(pattern, people).fullmatch(row) is not None


def all_patterns(letters, most):
    for length in range(most + 1):
        for signs in itertools.product(letters + "?*", repeat=length):
            if signs.count("*") <= 2:
                yield "".join(signs)


class PatternErrorTest(unittest.TestCase):
    def calls(self, post):
        return [lambda pattern: matches(post, pattern, "A?x"), lambda pattern: list(rows_of(post, pattern, 2)),
                lambda pattern: chief_rows(post, pattern), lambda pattern: least_row(post, pattern, lambda machine: True),
                lambda pattern: pattern_machine(post, pattern), lambda pattern: pattern_melted(post, pattern, EVERY),
                lambda pattern: pattern_same(post, pattern, "nobody", EVERY), lambda pattern: safe_texts(post, pattern, ["x"])]

    def test_bad_patterns(self):
        cases = [("X", 0), ("AX", 1), ("a", 0), ("-", 0), ("A B", 1), ("***", 2), ("*?*A*", 4), ("AAAAAAA", 6), ("??????X", 6),
                 ("***X", 2), ("X***", 0), ("AAAAA**", 6), ("*AAA*A*", 6), ("AAAAAXA", 5), ("**AAAAAAAA", 6), ("A?*!", 3)]
        for call in self.calls(POST):
            for pattern, place in cases:
                with self.subTest(pattern=pattern), self.assertRaises(BadPattern) as caught:
                    call(pattern)
                self.assertEqual(caught.exception.place, place)

    def test_six_characters_and_two_stars(self):
        for pattern in ["AAAAAA", "**AAAA", "??????", "*????*"]:
            self.assertIs(matches(POST, pattern, "AAAAAA"), True)

    def test_a_bad_pattern_comes_before_all_but_mixed(self):
        other = Stock.every(OTHER)
        for call in [pattern_melted, lambda post, pattern, stock: pattern_same(post, pattern, "nobody", stock)]:
            self.assertRaises(Mixed, call, POST, "bad", other)
        rows = rows_of(POST, "bad", 2)
        self.assertRaises(BadPattern, next, rows)

    def test_unknown_letters(self):
        for row, letter, place in [("X", "X", 0), ("AB?", "?", 2), ("aA", "a", 0)]:
            with self.assertRaises(UnknownLetter) as caught:
                matches(POST, "A", row)
            self.assertEqual([caught.exception.letter, caught.exception.place], [letter, place])


class MatchesTest(unittest.TestCase):
    def test_all_short_patterns(self):
        for pattern in all_patterns("AF", 3):
            for row in small_rows("ABF", 4):
                self.assertIs(matches(POST, pattern, row), fits(pattern, row), (pattern, row))

    def test_random_patterns(self):
        rng = random.Random(731)
        for _ in range(1500):
            pattern = "".join(rng.choice("ABFHP??*") for _ in range(rng.randint(0, 6)))
            if pattern.count("*") > 2:
                continue
            row = "".join(rng.choice("AABBFHP") for _ in range(rng.randint(0, 14)))
            filled = "".join("".join(rng.choice("AB") for _ in range(rng.randint(0, 4))) if sign == "*" else
                             rng.choice("AB") if sign == "?" else sign for sign in pattern)
            self.assertIs(matches(POST, pattern, row), fits(pattern, row))
            self.assertIs(matches(POST, pattern, filled), True)

    def test_no_people(self):
        for pattern in all_patterns("F", 3):
            for row in small_rows("FP", 3):
                self.assertIs(matches(ALONE, pattern, row), fits(pattern, row, ""), (pattern, row))
        self.assertIs(matches(ALONE, "*", ""), True)
        self.assertIs(matches(ALONE, "?", "F"), False)
        self.assertIs(matches(ALONE, "", ""), True)

    def test_only_people_stand_for_stars(self):
        for letter in "FPH":
            self.assertIs(matches(POST, "*", letter), False)
            self.assertIs(matches(POST, "?", letter), False)
            self.assertIs(matches(POST, letter, letter), True)
        self.assertIs(matches(POST, "*", "AB" * 30), True)


class RowsOfTest(unittest.TestCase):
    def test_all_short_patterns(self):
        for pattern in all_patterns("AF", 3):
            for length in range(4):
                expected = [row for row in small_rows("ABF", length) if len(row) == length and fits(pattern, row)]
                self.assertEqual(list(rows_of(POST, pattern, length)), expected, (pattern, length))

    def test_no_people(self):
        for pattern in all_patterns("F", 3):
            for length in range(4):
                expected = [row for row in small_rows("F", length) if len(row) == length and fits(pattern, row, "")]
                self.assertEqual(list(rows_of(ALONE, pattern, length)), expected)

    def test_lengths(self):
        self.assertEqual(list(rows_of(POST, "", 0)), [""])
        self.assertEqual(list(rows_of(POST, "", 1)), [])
        self.assertEqual(list(rows_of(POST, "*", 0)), [""])
        self.assertEqual(list(rows_of(POST, "F*F", 1)), [])
        twelve = list(rows_of(POST, "*F*", 12))
        self.assertEqual([len(twelve), twelve[0], twelve[-1]], [12 * 2 ** 11, "A" * 11 + "F", "F" + "B" * 11])
        self.assertEqual(twelve, sorted(set(twelve)))
        self.assertEqual(len(list(rows_of(POST, "F**F", 12))), 2 ** 10)
        self.assertEqual(len(list(rows_of(POST, "F*F", 14))), 2 ** 12)
        self.assertEqual(list(rows_of(POST, "*", -1)), [])

    def test_one_after_the_other(self):
        people = Post(AB, **{letter: person("-ab") for letter in "ABCDEFG"}, Z=Plain(AB))
        rows = rows_of(people, "*Z*", 12)
        self.assertEqual([next(rows), next(rows)], ["AAAAAAAAAAAZ", "AAAAAAAAAABZ"])
        # A beginning that no row of this length has is given up.
        self.assertEqual(list(rows_of(people, "ABCDEF", 12)), [])
        self.assertEqual(list(rows_of(people, "ZZZZZZ", 6)), ["ZZZZZZ"])
        self.assertEqual(len(list(rows_of(people, "*ZZZZZ", 6))), 7)
        with unittest.mock.patch("talepost.stretches.after_letter", wraps=after_letter) as spy:
            rows = rows_of(people, "*ZZZZZ", 12)
            self.assertEqual([next(rows), next(rows)], ["AAAAAAAZZZZZ", "AAAAAABZZZZZ"])
            self.assertLess(spy.call_count, 300)
            spy.reset_mock()
            self.assertEqual(list(rows_of(POST, "F?FHPF", 6)), ["FAFHPF", "FBFHPF"])
            self.assertLess(spy.call_count, 100)

    def test_errors_arise_when_it_is_iterated_over(self):
        rows = rows_of(POST, "A!", 1)
        with self.assertRaises(BadPattern) as caught:
            next(rows)
        self.assertEqual(caught.exception.place, 1)


def slow_chief(post, pattern):
    people = [letter for letter in post.members() if post[letter].KIND == "person"]
    names = Lot(post.cast()).names()
    rows = {"".join(parts) for parts in itertools.product(
        *[people if sign == "?" else names if sign == "*" else [sign] for sign in pattern])}
    return sorted(rows, key=by_order)


class ChiefRowsTest(unittest.TestCase):
    def test_patterns(self):
        for pattern in PATTERNS:
            self.assertEqual(chief_rows(POST, pattern), slow_chief(POST, pattern), pattern)
        self.assertEqual(chief_rows(POST, ""), [""])
        self.assertEqual(chief_rows(POST, "?F"), ["AF", "BF"])

    def test_rows_that_arise_several_times(self):
        post = Post(AB, A=person("-ba"))
        self.assertEqual(chief_rows(post, "**"), ["", "A", "AA"])
        self.assertEqual(chief_rows(post, "*A*"), ["A", "AA", "AAA"])
        self.assertEqual(chief_rows(post, "*?"), ["A", "AA"])

    def test_no_people(self):
        self.assertEqual(chief_rows(ALONE, "?"), [])
        self.assertEqual(chief_rows(ALONE, "F?*"), [])
        self.assertEqual(chief_rows(ALONE, "*"), [""])
        self.assertEqual(chief_rows(ALONE, "*F*P"), ["FP"])

    def test_each_row_says_what_a_chief_row_says(self):
        rng = random.Random(74)
        for _ in range(6):
            model = Model(rng, (2,))
            for pattern in ["*", "?F", "*F*", "H*H", "*H?"]:
                try:
                    chief = chief_rows(model.post, pattern)
                except TooMany:
                    continue
                for row in chief:
                    self.assertIs(matches(model.post, pattern, row), True)
                for length in range(5):
                    for row in rows_of(model.post, pattern, length):
                        outs = [model.all_outs(row, text) for text in ["", "a", "b-", "ab"]]
                        ahead = [each for each in chief if by_order(each) <= by_order(row)]
                        self.assertTrue(any(outs == [model.all_outs(each, text) for text in ["", "a", "b-", "ab"]]
                                            for each in ahead), (pattern, row))

    def post_of(self, *hears):
        says = ["-", "a", "b", "k"]
        return Post(ABK, F=Plain(ABK), **{letter: Hearer(Person(ABK, hear, says)) for letter, hear in zip("ABCDE", hears)})

    def test_150_tables_and_more(self):
        # All functions of four signs.
        post = self.post_of("abk-", "a-bk", "--bk")
        for pattern in ["*", "F*", "*F*F"]:
            with self.assertRaises(TooMany) as caught:
                chief_rows(post, pattern)
            self.assertEqual(caught.exception.most, 150)
        self.assertEqual(chief_rows(post, "F?"), ["FA", "FB", "FC"])
        # The 24 orders of four signs: the lot is small enough, but there are 576 ways.
        post = self.post_of("abk-", "a-bk")
        self.assertEqual(len(chief_rows(post, "F*")), 24)
        with self.assertRaises(TooMany) as caught:
            chief_rows(post, "*F*")
        self.assertEqual(caught.exception.most, 400)

    def test_400_ways_and_more(self):
        four = self.post_of("-abk", "-abk", "-abk", "-abk")
        self.assertEqual(len(chief_rows(four, "????")), 256)
        with self.assertRaises(TooMany) as caught:
            chief_rows(four, "?????")
        self.assertEqual(caught.exception.most, 400)
        # Ways that give the same row count each: two stars of 20 tables are 400 ways, of 21 tables 441.
        twenty = Post(AB, A=person("-ab"), **{"B": person("-ab")})
        self.assertEqual(chief_rows(twenty, "**"), [""])
        found = {}
        rng = random.Random(741)
        while not {20, 21} <= set(found):
            hears = ["".join(rng.choice(ABK.signs) for _ in range(4)) for _ in range(2)]
            post = self.post_of(*hears)
            found.setdefault(len(Lot(post.cast(), most=400)), post)
        self.assertLessEqual(len(chief_rows(found[20], "**")), 400)
        self.assertEqual(chief_rows(found[20], "*F*"), slow_chief(found[20], "*F*"))
        for pattern in ["**", "*F*"]:
            with self.assertRaises(TooMany) as caught:
                chief_rows(found[21], pattern)
            self.assertEqual(caught.exception.most, 400)

    def test_a_returned_list_is_new(self):
        chief_rows(POST, "?").append("X")
        self.assertEqual(chief_rows(POST, "?"), ["A", "B"])


class LeastRowTest(unittest.TestCase):
    def test_calls(self):
        chief = chief_rows(POST, "*F*")
        for at, row in enumerate(chief):
            seen = []

            def wish(machine):
                seen.append([machine.outs(text) for text in ["ab", "-a"]])
                return len(seen) == at + 1

            self.assertEqual(least_row(POST, "*F*", wish), row)
            self.assertEqual(seen, [[POST.outs(each, text) for text in ["ab", "-a"]] for each in chief[:at + 1]])

    def test_no_row(self):
        calls = []
        self.assertIsNone(least_row(POST, "*F*", lambda machine: calls.append(machine) is not None))
        self.assertEqual(len(calls), len(chief_rows(POST, "*F*")))
        self.assertIsNone(least_row(ALONE, "?", lambda machine: True))
        self.assertEqual(least_row(ALONE, "*", lambda machine: True), "")

    def test_wishes_of_the_program(self):
        stock = shape("(ab)*")
        found = least_row(POST, "F*", lambda machine: melted(machine, stock) is None and machine.says("ab", "ba"))
        self.assertEqual(found, "FA")


class PatternMachineTest(unittest.TestCase):
    def test_random_posts(self):
        rng = random.Random(751)
        for _ in range(12):
            model = Model(rng, rng.choice([(2,), ()]))
            for pattern in ["*", "?F", "*F*", "*?"] + (["H*H"] if model.hidden else []):
                try:
                    rows = chief_rows(model.post, pattern)
                except TooMany:
                    continue
                machine = pattern_machine(model.post, pattern)
                for text in [random_text(rng, 2) for _ in range(3)]:
                    expected = set().union(*[model.all_outs(row, text) for row in rows])
                    self.assertEqual(machine.outs(text), sorted(expected, key=by_order))

    def test_all_signs_go_through_the_same_row(self):
        post = Post(AB, A=person("ab-"))
        self.assertEqual(pattern_machine(post, "*").outs("-ab"), ["-ab", "ab-", "b-a"])
        self.assertEqual(pattern_machine(post, "A*").outs("-a"), ["-a", "ab", "b-"])
        self.assertEqual(pattern_machine(ALONE, "?").outs("a"), [])
        self.assertEqual(pattern_machine(ALONE, "").outs("ab"), ["ab"])


class PatternMeltedTest(unittest.TestCase):
    def test_random_posts(self):
        rng = random.Random(752)
        found = set()
        for _ in range(40):
            model = Model(rng, rng.choice([(2,), ()]))
            texts = sorted({random_text(rng, 2) for _ in range(3)})
            for pattern in ["*", "?F", "*F*", "A*"] + (["H?H"] if model.hidden else []):
                try:
                    result = pattern_melted(model.post, pattern, Stock.listed(AB, texts))
                except TooMany:
                    continue
                longest = 4 if result is None else min(len(result[0]), 5)
                expected = None
                for length in range(longest + 1):
                    for row in rows_of(model.post, pattern, length):
                        pair = least_pair({text: model.all_outs(row, text) for text in texts})
                        if expected is None and pair is not None:
                            expected = (row, *pair)
                if result is None or len(result[0]) <= 5:
                    self.assertEqual(result, expected, (pattern, texts))
                found.add(result is None)
        self.assertEqual(found, {True, False})

    def test_rows(self):
        self.assertEqual(pattern_melted(POST, "*", EVERY), ("B", "a", "a", "b"))
        self.assertIsNone(pattern_melted(POST, "*", shape("a*")))
        self.assertEqual(pattern_melted(POST, "AH", EVERY), ("AH", "-", "-", "--"))
        self.assertEqual(pattern_melted(POST, "*F", shape("aJ*")), ("F", "a", "a", "a-"))
        self.assertIsNone(pattern_melted(ALONE, "?", EVERY))
        self.assertIsNone(pattern_melted(ALONE, "*", EVERY))
        self.assertRaises(Mixed, pattern_melted, POST, "*", Stock.every(OTHER))


class PatternSameTest(unittest.TestCase):
    def test_rows(self):
        self.assertIsNone(pattern_same(POST, "AA", "", EVERY))
        self.assertIsNone(pattern_same(POST, "*", "", shape("J*")))
        self.assertEqual(pattern_same(POST, "*", "", EVERY), ("A", "a"))
        self.assertEqual(pattern_same(POST, "*", "A", EVERY), ("", "a"))
        self.assertEqual(pattern_same(POST, "*", "B", EVERY), ("", "b"))
        self.assertEqual(pattern_same(POST, "B*", "B", EVERY), ("BA", "a"))
        self.assertEqual(pattern_same(POST, "F*", "F", EVERY), ("FA", "a"))
        self.assertIsNone(pattern_same(POST, "*F", "F", shape("J*")))
        self.assertIsNone(pattern_same(ALONE, "?", "P", EVERY))
        self.assertIsNone(pattern_same(ALONE, "*", "P", EVERY))
        # One of the two says nothing.
        post = Post(AB, A=person("-ab"), X=Fixed(pairs(("a", "a"), ("b", "b"))))
        self.assertEqual(pattern_same(post, "*", "X", EVERY), ("", ""))
        self.assertEqual(pattern_same(post, "X", "A", shape("L+")), ("X", "aa"))
        self.assertIsNone(pattern_same(post, "?", "X", shape("L")))

    def test_random_posts(self):
        rng = random.Random(753)
        results = set()
        for _ in range(60):
            model = Model(rng, rng.choice([(2,), ()]))
            texts = sorted({random_text(rng, 2) for _ in range(3)}, key=by_order)
            for pattern, other in [("*", ""), ("?", "A"), ("*F", "F"), ("A*", "A"), ("*F*", "BF")]:
                try:
                    rows = chief_rows(model.post, pattern)
                except TooMany:
                    continue
                expected = self.slow(model, rows, other, texts)
                try:
                    result = pattern_same(model.post, pattern, other, Stock.listed(AB, texts))
                except Uncertain as error:
                    result = error.text
                self.assertEqual(result, expected)
                results.add(type(result))
        self.assertEqual(results, {type(None), tuple, str})

    def slow(self, model, rows, other, texts):
        """The result, or the text of the error."""
        outs = {row: {text: model.all_outs(row, text) for text in texts} for row in [other, *rows]}
        for at, row in enumerate([other, *rows]):
            for text in texts:
                if len(outs[row][text]) > 1:
                    return text
            for text in texts:
                if outs[row][text] != outs[other][text]:
                    return (row, text)
        return None

    def test_the_order_of_errors(self):
        post = Post(AB, A=person("-ba"), D=person("-ab", ["-", "ab", "b"]), E=person("-ab", ["-a", "a", "b"]))
        with self.assertRaises(Uncertain) as caught:
            pattern_same(post, "A", "D", EVERY)
        self.assertEqual(caught.exception.text, "a")
        with self.assertRaises(Uncertain) as caught:
            pattern_same(post, "E", "D", EVERY)
        self.assertEqual(caught.exception.text, "a")
        with self.assertRaises(Uncertain) as caught:
            pattern_same(post, "E", "A", shape("J*"))
        self.assertEqual(caught.exception.text, "-")
        # What comes after the first difference is not looked at.
        self.assertEqual(pattern_same(post, "?", "", EVERY), ("A", "a"))
        with self.assertRaises(Uncertain) as caught:
            pattern_same(post, "?", "A", EVERY)
        self.assertEqual(caught.exception.text, "a")
        # The machine of the other row is checked even if there are no chief rows.
        alone = Post(AB, H=Hidden([pairs(("a", "b")), pairs(("a", "a"))]))
        self.assertRaises(Uncertain, pattern_same, alone, "?", "H", EVERY)
        self.assertIsNone(pattern_same(alone, "?", "H", shape("b")))
        with self.assertRaises(UnknownLetter) as caught:
            pattern_same(post, "A", "AX", EVERY)
        self.assertEqual([caught.exception.letter, caught.exception.place], ["X", 1])
        self.assertRaises(BadPattern, pattern_same, post, "X", "X", EVERY)
        self.assertRaises(Mixed, pattern_same, post, "X", "X", Stock.every(OTHER))
        many = Post(AB, **{letter: person("-ab") for letter in "ABCDEFGH"})
        with self.assertRaises(TooMany) as caught:
            pattern_same(many, "???", "X", EVERY)
        self.assertEqual(caught.exception.most, 400)


class SafeTextsTest(unittest.TestCase):
    def slow(self, model, rows, texts):
        clash = {(one, other) for row in rows for one, other in itertools.combinations(texts, 2)
                 if model.all_outs(row, one) & model.all_outs(row, other)}
        for many in range(len(texts), -1, -1):
            for chosen in itertools.combinations(texts, many):
                if not any(pair in clash for pair in itertools.combinations(chosen, 2)):
                    return list(chosen)

    def test_random_posts(self):
        rng = random.Random(76)
        lengths = set()
        for _ in range(40):
            model = Model(rng, rng.choice([(2,), ()]))
            texts = [random_text(rng, 2) for _ in range(rng.randint(0, 7))]
            for pattern in ["", "?", "*", "F*", "?F"] + (["H", "H?H"] if model.hidden else []):
                try:
                    rows = chief_rows(model.post, pattern)
                except TooMany:
                    continue
                given = list(texts)
                found = safe_texts(model.post, pattern, given)
                self.assertEqual(found, self.slow(model, rows, sorted(set(texts), key=by_order)), (pattern, texts))
                self.assertEqual(given, texts)
                lengths.add(len(found))
        self.assertGreater(len(lengths), 4)

    def test_the_first_of_several_longest_lists(self):
        self.assertEqual(safe_texts(POST, "B", ["b", "a", "ba", "-", "bb"]), ["-", "a", "ba"])
        self.assertEqual(safe_texts(POST, "*", ["b", "a", "", "a", "aa"]), ["", "a", "aa"])
        self.assertEqual(safe_texts(POST, "*", []), [])
        self.assertEqual(safe_texts(ALONE, "?", ["b", "a", "b"]), ["a", "b"])
        # All worlds together: H says a for a in both worlds, and for aa only in the world of "once all".
        self.assertEqual(safe_texts(POST, "H", ["a", "aa", "b"]), ["a", "b"])
        self.assertEqual(safe_texts(POST, "H", ["aa", "aaa", "b", "bb"]), ["b", "aa"])

    def test_eight_texts_and_nine(self):
        nine = all_texts(AB, 2)[:9]
        self.assertEqual(safe_texts(POST, "P", nine[:8] + nine[:8]), nine[:8])
        with self.assertRaises(TooMany) as caught:
            safe_texts(POST, "P", nine)
        self.assertEqual(caught.exception.most, 8)

    def test_the_order_of_errors(self):
        nine = all_texts(AB, 2)[:9]
        with self.assertRaises(BadText) as caught:
            safe_texts(POST, "P", nine + ["x", "y"])
        self.assertEqual(caught.exception.text, "x")
        with self.assertRaises(BadText) as caught:
            safe_texts(POST, "P", ["a", "y", "x"])
        self.assertEqual(caught.exception.text, "y")
        self.assertRaises(BadPattern, safe_texts, POST, "p", ["x"])
        many = Post(AB, **{letter: person("-ab") for letter in "ABCDEFGH"})
        with self.assertRaises(TooMany) as caught:
            safe_texts(many, "???", ["x"])
        self.assertEqual(caught.exception.most, 400)


if __name__ == "__main__":
    unittest.main()
