"""The examples of the interface, and that its names stand where it lists them."""

import importlib
import inspect
import unittest

from talepost.booknotes import parse_book
from talepost.books import Book
from talepost.casts import Cast
from talepost.errors import BadLine
from talepost.growth import growth
from talepost.leads import lead_rows, parting_text
from talepost.letters import Alphabet
from talepost.lots import Lot
from talepost.machines import Machine
from talepost.menus import Menu
from talepost.pages import Page
from talepost.people import Doubter, Knower, KnowingDoubter, Person
from talepost.rules import Rule
from talepost.stages import Add, Drop, LastDrop, Once, Write
from talepost.standings import reader
from talepost.stocks import Stock
from talepost.sure import doubt
from talepost.tables import Table
from talepost.trips import first_damage

LISTED = {
    "letters": {"Alphabet": "letters, vowels=''", "shortlex": "texts", "kind_after": "text"},
    "stocks": {"Stock": "alphabet, rows, goods", "differing": "first, second"},
    "machines": {"Machine": "alphabet, arcs, goods"},
    "leads": {"parting_text": "first, second", "lead_rows": "first, second", "leads_hold": "first, second, rows"},
    "sure": {"link": "first, second, stock", "is_certain": "machine", "several": "machine",
             "doubt": "first, second, stock", "melted": "machine, stock", "same": "first, second",
             "returned": "machine, stock", "tells": "machine, stock, asked"},
    "growth": {"growth": "machine", "pump": "machine"},
    "tables": {"Table": "alphabet, pairs"},
    "losing": {"greatest_behind": "first, whole", "greatest_ahead": "last, whole", "further": "first, whole",
               "earlier": "last, whole"},
    "people": {"Person": "alphabet, hears, says", "Knower": "alphabet, hears, says, knows",
               "Doubter": "alphabet, hears, says", "KnowingDoubter": "alphabet, hears, says, knows"},
    "casts": {"Cast": "alphabet, **people"},
    "lots": {"Lot": "cast, *, most=150"},
    "echoes": {"echo": "there, back, text", "ranks": "cast", "ring": "cast"},
    "books": {"Book": "alphabet, *entries"},
    "scanning": {name: "book, text, *, after='start'" for name in ["write_steps", "read_steps", "shorten", "expand"]},
    "standings": {"writer": "book, *, using=None", "reader": "book, *, taking=None"},
    "trips": {"round_trip": "old, new, text", "first_damage": "old, new, stock", "first_use": "book, name, stock",
              "first_take": "old, new, name, stock", "first_clash": "old, new, short, place, stock",
              "strike": "book, names", "least_strike": "old, new, stock"},
    "booknotes": {"format_book": "book", "parse_book": "alphabet, text"},
    "stages": {"Stage": "alphabet", "Drop": "alphabet, name, *, after=0, each=False",
               "LastDrop": "alphabet, name, *, after=0, each=False", "Write": "alphabet, sign, name",
               "Once": "alphabet, name", "Add": "alphabet, sign", "read_stage": "alphabet, written"},
    "rules": {"Rule": "alphabet, *stages"},
    "menus": {"Menu": "rules"},
    "pages": {"Page": "alphabet, text=''"}}
METHODS = {
    Alphabet: {"signs_of": "name", "is_text": "text", "check": "text"},
    Stock: {"every": "alphabet", "none": "alphabet", "listed": "alphabet, texts", "shaped": "alphabet, shape",
            "first": "", "texts": "most", "how_many": "most", "extent": ""},
    Machine: {"identity": "alphabet", "of_pairs": "alphabet, pairs", "spelled": "alphabet, rows, ends", "on": "stock",
              "into": "stock", "image": "stock", "source": "stock", "domain": "", "outs": "text", "says": "text, out"},
    Table: {"identity": "alphabet", "full": "alphabet", "empty": "alphabet", "read": "alphabet, written", "pairs": "",
            "within": "other", "machine": ""},
    Person: {"heard": "sign", "said": "sign"}, Knower: {"said": "sign"}, Doubter: {"said": "sign"},
    KnowingDoubter: {"said": "sign"},
    Cast: {"put": "letter, person", "leave": "letter", "members": "", "through": "row"},
    Lot: {"names": "", "walk": "", "name_of": "table", "least": "row", "behind": "row, other", "union": "", "machine": ""},
    Book: {"names": "", "entries": ""},
    **{kind: {"machine": "", "__call__": "text", "__str__": ""} for kind in [Drop, LastDrop, Write, Once, Add]},
    Rule: {"read": "alphabet, written", "results": "text", "machine": "", "__call__": "text"},
    Menu: {"made": "alphabet, *stages, depth=1", "written": "", "machines": "", "classes_on": "stock",
           "parted": "one, two, stock"},
    Page: {"press": "key"}}


def written(signature):
    return str(signature)[1:-1]


class InterfaceTest(unittest.TestCase):
    def test_functions_and_classes(self):
        for module, names in LISTED.items():
            held = vars(importlib.import_module(f"talepost.{module}"))
            for name, parameters in names.items():
                self.assertEqual(held[name].__module__, f"talepost.{module}")
                self.assertEqual(written(inspect.signature(held[name])), parameters, name)

    def test_methods(self):
        for kind, names in METHODS.items():
            for name, parameters in names.items():
                self.assertIn(name, vars(kind))
                bound = written(inspect.signature(getattr(kind, name)))
                self.assertEqual(bound.removeprefix("self").removeprefix(", "), parameters, name)


class ExamplesTest(unittest.TestCase):
    def test_stocks(self):
        self.assertEqual(list(Stock.shaped(Alphabet("ab", "a"), "V(J|C)*").texts(2)), ["a", "a-", "ab"])

    def test_leads(self):
        alphabet = Alphabet("ab")
        machine = Machine(alphabet, [[("a", "b", 0)]], [True])
        self.assertEqual([lead_rows(machine, machine), parting_text(machine, Machine.identity(alphabet))],
                         [[(0, 0, "", "")], "a"])

    def test_sure(self):
        alphabet = Alphabet("ab")
        first = Table(alphabet, [("a", "b"), ("b", "b")]).machine()
        self.assertEqual(doubt(first, Machine.identity(alphabet), Stock.every(alphabet)), ("b", "a", "b", "a", "b"))

    def test_growth(self):
        self.assertEqual(growth(reader(Book(Alphabet("abk"), ("km", "abba", "k", "any")))), (4, 1, 0, "", ""))

    def test_trips(self):
        alphabet = Alphabet("abk")
        book = Book(alphabet, ("km", "abba", "k", "any"))
        self.assertEqual([first_damage(book, book, Stock.every(alphabet)),
                          first_damage(book, book, Stock.shaped(alphabet, "(J|a|b)*"))], ["k", None])

    def test_booknotes(self):
        with self.assertRaises(BadLine) as caught:
            parse_book(Alphabet("abk"), "km any abba k\n\n")
        self.assertEqual(caught.exception.line, 2)

    def test_rules(self):
        rule = Rule.read(Alphabet("nort", "o"), "drop vowels after 1 each; drop joints")
        self.assertEqual(rule.results("nor-ort"), ["nor-ort", "nr-ort", "nrort"])


if __name__ == "__main__":
    unittest.main()
