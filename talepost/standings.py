"""Machines that write or read as a book does (point 43)."""

from talepost.errors import UnknownName
from talepost.letters import kind_after
from talepost.machines import Machine
from talepost.scanning import longest_rule, scan_rules


def writer(book, *, using=None):
    """The machine that says what the book writes; if `using` is a name, only where its entry is used."""
    check_wanted(book, using)
    return scanner(book.alphabet, scan_rules(book, False), False, using)


def reader(book, *, taking=None):
    """The machine that says what the book reads; if `taking` is a name, only where its entry is used."""
    check_wanted(book, taking)
    return scanner(book.alphabet, scan_rules(book, True), True, taking)


def check_wanted(book, name):
    """Raise UnknownName if the name is not None and no entry has it."""
    if name is not None and name not in book:
        raise UnknownName(name)


def scanner(alphabet, rules, reading, wanted):
    """The machine of a scan with rules as `scan_rules` gives them; if `wanted` is a name, only where its rule is used.

    Its situations are (kind, signs that are held back, whether the wanted rule was used).
    """
    situations = [("start", "", wanted is None)]
    number = {situations[0]: 0}
    rows = []
    ends = []
    while len(rows) < len(situations):
        kind, held, used = situations[len(rows)]
        row = []
        for sign in alphabet.signs:
            written, after = decided(rules, reading, wanted, (kind, held + sign, used), False)
            if after not in number:
                number[after] = len(situations)
                situations.append(after)
            row.append((sign, written, number[after]))
        rows.append(row)
        written, after = decided(rules, reading, wanted, (kind, held, used), True)
        ends.append(written if after[2] else None)
    return Machine.spelled(alphabet, rows, ends)


def decided(rules, reading, wanted, situation, at_end):
    """What is written as far as no later sign can change it, and the situation behind it."""
    kind, held, used = situation
    written = ""
    while held != "" and (at_end or not may_grow(rules, kind, held)):
        name, seen, piece = longest_rule(rules, kind, held)
        written = written + piece
        kind = kind_after(piece if reading else seen)
        held = held[len(seen):]
        used = used or name == wanted
    return written, (kind, held, used)


def may_grow(rules, kind, held):
    """Whether what is held back can still become what a rule scans, with further signs."""
    return any([kind in kinds and seen != held and seen.startswith(held) for _, seen, _, kinds in rules])
