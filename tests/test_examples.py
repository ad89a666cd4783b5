"""The examples of the interface, and that its names stand where it lists them."""

import importlib
import inspect
import unittest

from talepost.booknotes import parse_book
from talepost.books import Book
from talepost.casts import Cast
from talepost.errors import BadLine, Melted
from talepost.growth import growth
from talepost.leads import lead_rows, parting_text
from talepost.ledgers import Ledger
from talepost.letters import Alphabet
from talepost.lots import MOST_TABLES, Lot
from talepost.machines import Machine
from talepost.menus import Menu
from talepost.pages import HOLD, Page
from talepost.people import Doubter, Knower, KnowingDoubter, Person
from talepost.plays import Result, carry, play
from talepost.posts import MOST_STATIONS, MOST_WORLDS, Post
from talepost.printing import world_lines
from talepost.recordings import Recording
from talepost.routes import ROUTE_LIMIT, Route
from talepost.rules import Rule
from talepost.stages import Add, Drop, LastDrop, Once, Write
from talepost.standings import reader
from talepost.stations import Fixed, Hearer, Hidden, Plain
from talepost.stocks import Stock
from talepost.stretches import pattern_melted
from talepost.sure import doubt
from talepost.tables import Table
from talepost.trips import first_damage

LISTED = {
    "letters": {"Alphabet": "letters, vowels=''", "shortlex": "texts", "kind_after": "text"},
    "stocks": {"Stock": "alphabet, rows, goods", "differing": "first, second"},
    "machines": {"Machine": "alphabet, arcs, goods"},
    "leads": {"parting_text": "first, second", "lead_rows": "first, second", "leads_hold": "first, second, rows"},
    "sure": {"link": "first, second, stock", "is_certain": "machine", "several": "machine",
             "doubt": "first, second, stock", "melted": "machine, stock", "same": "first, second",
             "returned": "machine, stock", "tells": "machine, stock, asked"},
    "growth": {"growth": "machine", "pump": "machine"},
    "tables": {"Table": "alphabet, pairs"},
    "losing": {"greatest_behind": "first, whole", "greatest_ahead": "last, whole", "further": "first, whole",
               "earlier": "last, whole"},
    "people": {"Person": "alphabet, hears, says", "Knower": "alphabet, hears, says, knows",
               "Doubter": "alphabet, hears, says", "KnowingDoubter": "alphabet, hears, says, knows"},
    "casts": {"Cast": "alphabet, **people"},
    "lots": {"Lot": "cast, *, most=150"},
    "echoes": {"echo": "there, back, text", "ranks": "cast", "ring": "cast"},
    "books": {"Book": "alphabet, *entries"},
    "scanning": {name: "book, text, *, after='start'" for name in ["write_steps", "read_steps", "shorten", "expand"]},
    "standings": {"writer": "book, *, using=None", "reader": "book, *, taking=None"},
    "trips": {"round_trip": "old, new, text", "first_damage": "old, new, stock", "first_use": "book, name, stock",
              "first_take": "old, new, name, stock", "first_clash": "old, new, short, place, stock",
              "strike": "book, names", "least_strike": "old, new, stock"},
    "booknotes": {"format_book": "book", "parse_book": "alphabet, text"},
    "stages": {"Stage": "alphabet", "Drop": "alphabet, name, *, after=0, each=False",
               "LastDrop": "alphabet, name, *, after=0, each=False", "Write": "alphabet, sign, name",
               "Once": "alphabet, name", "Add": "alphabet, sign", "read_stage": "alphabet, written"},
    "rules": {"Rule": "alphabet, *stages"},
    "menus": {"Menu": "rules"},
    "pages": {"Page": "alphabet, text=''"},
    "recordings": {"Recording": "alphabet, notation"},
    "plays": {"play": "recording, text", "trace": "recording, text, *, most=60", "carry": "recording, text",
              "ending": "recording, outcome"},
    "stations": {"Station": "alphabet", "Plain": "alphabet", "Fixed": "machine", "Hearer": "person", "Hidden": "machines"},
    "posts": {"Post": "alphabet, **stations"},
    "rowlinks": {"row_link": "post, heard, asked, stock", "row_doubt": "post, heard, asked, stock",
                 "senders": "post, row, out, stock"},
    "mending": {"fewest_plain": "post, row, stock", "swappable": "post, stock", "undoing": "post, row, stock"},
    "stretches": {"matches": "post, pattern, row", "rows_of": "post, pattern, length", "chief_rows": "post, pattern",
                  "least_row": "post, pattern, wish", "pattern_machine": "post, pattern",
                  "pattern_melted": "post, pattern, stock", "pattern_same": "post, pattern, other, stock",
                  "safe_texts": "post, pattern, texts"},
    "ledgers": {"Ledger": "post, *, limit=0"},
    "plans": {name: "ledger, row, *texts" for name in ["plan", "depth", "stall"]},
    "routes": {"Route": "ledger, stock, *, limit=8", "attempt": "route, deeds"},
    "printing": {"world_lines": "ledger", "post_lines": "post"}}
METHODS = {
    Alphabet: {"signs_of": "name", "is_text": "text", "check": "text"},
    Stock: {"every": "alphabet", "none": "alphabet", "listed": "alphabet, texts", "shaped": "alphabet, shape",
            "first": "", "texts": "most", "how_many": "most", "extent": ""},
    Machine: {"identity": "alphabet", "of_pairs": "alphabet, pairs", "spelled": "alphabet, rows, ends", "on": "stock",
              "into": "stock", "image": "stock", "source": "stock", "domain": "", "outs": "text", "says": "text, out"},
    Table: {"identity": "alphabet", "full": "alphabet", "empty": "alphabet", "read": "alphabet, written", "pairs": "",
            "within": "other", "machine": ""},
    Person: {"heard": "sign", "said": "sign"}, Knower: {"said": "sign"}, Doubter: {"said": "sign"},
    KnowingDoubter: {"said": "sign"},
    Cast: {"put": "letter, person", "leave": "letter", "members": "", "through": "row"},
    Lot: {"names": "", "walk": "", "name_of": "table", "least": "row", "behind": "row, other", "union": "", "machine": ""},
    Book: {"names": "", "entries": ""},
    **{kind: {"machine": "", "__call__": "text", "__str__": ""} for kind in [Drop, LastDrop, Write, Once, Add]},
    Rule: {"read": "alphabet, written", "results": "text", "machine": "", "__call__": "text"},
    Menu: {"made": "alphabet, *stages, depth=1", "written": "", "machines": "", "classes_on": "stock",
           "parted": "one, two, stock"},
    Page: {"press": "key"},
    Recording: {"all_keys": "", "machine": ""},
    **{kind: {"machine": "", "outs": "text"} for kind in [Plain, Fixed, Hearer, Hidden]},
    Post: {"put": "letter, station", "leave": "letter", "members": "", "cast": "", "plain": "letters", "worlds": "",
           "settled": "world", "through": "row", "outs": "row, text"},
    Ledger: {"see": "row, text, out", "withdraw": "number", "change_limit": "limit", "entries": "", "left": "",
             "misses": "world", "twin": "", "machines_left": "letter", "through": "row", "answers": "row, text",
             "silent": "row, text", "sure": "row, text", "unsure": "row, stock", "verdict": "row, one, two"},
    Route: {"machine": "", "ledger": "", "outs": "text", "told_back": "out", "add": "letter", "insert": "at, letter",
            "take": "at", "swap": "at", "see": "row, text, out", "withdraw": "number", "change_limit": "limit", "undo": "",
            "redo": "", "twin": ""}}
OPERATORS = {
    Stock: "eq contains and or sub bool", Machine: "len mul or invert", Alphabet: "eq", Lot: "len contains",
    Table: "getitem contains len bool str eq mul or and invert", Cast: "getitem setitem contains len",
    Book: "len contains getitem add sub eq", Rule: "call eq add len str", Menu: "len", Recording: "eq add len str",
    Post: "getitem setitem contains len", Ledger: "len", Route: "len iadd"}
PROPERTIES = {Table: "total exact", Person: "table", Knower: "known", Page: "held", Ledger: "limit many",
              Route: "row past future limit"}


def written(signature):
    return str(signature)[1:-1]


class InterfaceTest(unittest.TestCase):
    def test_functions_and_classes(self):
        for module, names in LISTED.items():
            held = vars(importlib.import_module(f"talepost.{module}"))
            for name, parameters in names.items():
                self.assertEqual(held[name].__module__, f"talepost.{module}")
                self.assertEqual(written(inspect.signature(held[name])), parameters, name)

    def test_methods(self):
        for kind, names in METHODS.items():
            for name, parameters in names.items():
                self.assertIn(name, vars(kind))
                bound = written(inspect.signature(getattr(kind, name)))
                self.assertEqual(bound.removeprefix("self").removeprefix(", "), parameters, name)

    def test_operators_and_properties(self):
        for kind, names in OPERATORS.items():
            for name in names.split():
                self.assertIn(f"__{name}__", vars(kind), kind)
        for kind, names in PROPERTIES.items():
            for name in names.split():
                self.assertIsInstance(vars(kind)[name], property)
                self.assertEqual(vars(kind)[name].fset is not None, name == "limit")

    def test_generators(self):
        for module, name in [("scanning", "write_steps"), ("scanning", "read_steps"), ("plays", "trace"), ("stretches", "rows_of")]:
            held = vars(importlib.import_module(f"talepost.{module}"))
            self.assertTrue(inspect.isgeneratorfunction(held[name]), name)
        for method in [Stock.texts, Lot.walk]:
            self.assertTrue(inspect.isgeneratorfunction(method))

    def test_constants_and_class_values(self):
        self.assertEqual([Alphabet.JOINT, Alphabet.MOST, MOST_TABLES, Book.MOST, Rule.MOST, Menu.MOST, HOLD], ["-", 4, 150, 8, 3, 60, 2])
        self.assertEqual([Recording.MOST_KEYS, Recording.MOST_DEPTH, MOST_STATIONS, MOST_WORLDS, ROUTE_LIMIT], [24, 4, 8, 64, 8])
        self.assertEqual([Plain.KIND, Fixed.KIND, Hearer.KIND, Hidden.KIND], ["plain", "fixed", "person", "hidden"])
        self.assertEqual(Result.__module__, "talepost.plays")

    def test_the_attribute_alphabet(self):
        alphabet = Alphabet("ab", "a")
        person = Person(alphabet, "-ab", ["-", "a", "b"])
        machine = Machine.identity(alphabet)
        post = Post(alphabet, H=Hidden([machine]))
        things = [Stock.every(alphabet), machine, person.table, person, Knower(alphabet, "-ab", ["-", "a", "b"], "a"),
                  Cast(alphabet, A=person), Lot(Cast(alphabet)), Book(alphabet), Drop(alphabet, "all"), Add(alphabet, "a"),
                  Rule(alphabet), Menu([Rule(alphabet)]), Page(alphabet), Recording(alphabet, "w"), post["H"], Plain(alphabet),
                  Fixed(machine), Hearer(person), post, Ledger(post), Route(Ledger(post), Stock.every(alphabet)),
                  play(Recording(alphabet, "w"), "a")]
        for thing in things:
            self.assertEqual(thing.alphabet, alphabet)

    def test_objects_with_brackets_cannot_be_iterated_over(self):
        alphabet = Alphabet("ab")
        for thing in [Table.full(alphabet), Cast(alphabet), Book(alphabet), Post(alphabet)]:
            self.assertRaises(TypeError, iter, thing)


class ExamplesTest(unittest.TestCase):
    def test_stocks(self):
        self.assertEqual(list(Stock.shaped(Alphabet("ab", "a"), "V(J|C)*").texts(2)), ["a", "a-", "ab"])

    def test_leads(self):
        alphabet = Alphabet("ab")
        machine = Machine(alphabet, [[("a", "b", 0)]], [True])
        self.assertEqual([lead_rows(machine, machine), parting_text(machine, Machine.identity(alphabet))],
                         [[(0, 0, "", "")], "a"])

    def test_sure(self):
        alphabet = Alphabet("ab")
        first = Table(alphabet, [("a", "b"), ("b", "b")]).machine()
        self.assertEqual(doubt(first, Machine.identity(alphabet), Stock.every(alphabet)), ("b", "a", "b", "a", "b"))

    def test_growth(self):
        self.assertEqual(growth(reader(Book(Alphabet("abk"), ("km", "abba", "k", "any")))), (4, 1, 0, "", ""))

    def test_trips(self):
        alphabet = Alphabet("abk")
        book = Book(alphabet, ("km", "abba", "k", "any"))
        self.assertEqual([first_damage(book, book, Stock.every(alphabet)),
                          first_damage(book, book, Stock.shaped(alphabet, "(J|a|b)*"))], ["k", None])

    def test_booknotes(self):
        with self.assertRaises(BadLine) as caught:
            parse_book(Alphabet("abk"), "km any abba k\n\n")
        self.assertEqual(caught.exception.line, 2)

    def test_rules(self):
        rule = Rule.read(Alphabet("nort", "o"), "drop vowels after 1 each; drop joints")
        self.assertEqual(rule.results("nor-ort"), ["nor-ort", "nr-ort", "nrort"])

    def test_plays(self):
        alphabet = Alphabet("ab")
        self.assertEqual([carry(Recording(alphabet, "(/ax)"), "baab"), carry(Recording(alphabet, "x=b"), "aa"),
                          play(Recording(alphabet, "(=a)"), "ab").outcome], ["bb", "aa", "endless"])

    def test_posts(self):
        alphabet = Alphabet("ab")
        person = Person(alphabet, "-ab", ["-", "ab", "b"])
        post = Post(alphabet, A=Hearer(person), B=Fixed(Rule.read(alphabet, "once all").machine()))
        self.assertEqual(post.outs("AB", "aa"), ["a", "b", "ab", "ba"])

    def test_stretches(self):
        alphabet = Alphabet("ab")
        post = Post(alphabet, A=Hearer(Person(alphabet, "-ab", ["-", "a", "ab"])))
        self.assertEqual(pattern_melted(post, "*", Stock.listed(alphabet, ["a", "b"])), ("A", "a", "a", "b"))

    def test_ledgers(self):
        alphabet = Alphabet("ab", "a")
        menu = Menu.made(alphabet, "drop vowels", "once all")
        ledger = Ledger(Post(alphabet, A=Hidden(menu.machines())))
        self.assertEqual(ledger.see("A", "abba", "bb"), 0)
        self.assertEqual([ledger.left(), world_lines(ledger)],
                         [[(1,)], ["0          out    1", "1          left   0", "2          out    1"]])

    def test_routes(self):
        alphabet = Alphabet("ab", "a")
        post = Post(alphabet, A=Fixed(Rule.read(alphabet, "drop vowels").machine()))
        route = Route(Ledger(post), Stock.listed(alphabet, ["b", "ab"]))
        with self.assertRaises(Melted) as caught:
            route.add("A")
        self.assertEqual([caught.exception.out, caught.exception.one, caught.exception.other], ["b", "b", "ab"])


if __name__ == "__main__":
    unittest.main()
