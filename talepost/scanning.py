"""Scans from the left: a book writes texts and reads short texts (points 41 and 42)."""

from talepost.books import KINDS
from talepost.errors import UnknownKind
from talepost.letters import kind_after


def write_steps(book, text, *, after="start"):
    """The steps (index, name, piece) in which the book writes the text."""
    check_scan(book, text, after)
    for step in scan(book, text, after, False):
        yield step


def read_steps(book, text, *, after="start"):
    """The steps (index, name, piece) in which the book reads the short text."""
    check_scan(book, text, after)
    for step in scan(book, text, after, True):
        yield step


def shorten(book, text, *, after="start"):
    """What the book writes for the text."""
    check_scan(book, text, after)
    return "".join([piece for _, _, piece in scan(book, text, after, False)])


def expand(book, text, *, after="start"):
    """What the book reads in the short text."""
    check_scan(book, text, after)
    return "".join([piece for _, _, piece in scan(book, text, after, True)])


def check_scan(book, text, after):
    """Raise the first error of a scan."""
    book.alphabet.check(text)
    if after not in KINDS["any"]:
        raise UnknownKind(after)


def scan(book, text, after, reading):
    """All steps of a scan; `reading` tells whether the short forms are the ones that are scanned."""
    rules = scan_rules(book, reading)
    steps = []
    index = 0
    kind = after
    while index < len(text):
        name, seen, piece = longest_rule(rules, kind, text[index:])
        steps.append((index, name, piece))
        kind = kind_after(piece if reading else seen)
        index = index + len(seen)
    return steps


def scan_rules(book, reading):
    """Rows (name, seen, piece, kinds): what is scanned, what is written for it, and the kinds it may follow."""
    if reading:
        return [(name, short, long, KINDS[place]) for name, long, short, place in book.entries()]
    return [(name, long, short, KINDS[place]) for name, long, short, place in book.entries()]


def longest_rule(rules, kind, rest):
    """(name, seen, piece) of the next step of a scan, ahead of which stands the rest, which is not empty."""
    fitting = [(len(seen), name, seen, piece) for name, seen, piece, kinds in rules
               if kind in kinds and rest.startswith(seen)]
    if fitting:
        _, name, seen, piece = max(fitting)
        return name, seen, piece
    return "", rest[0], rest[0]
