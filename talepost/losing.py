"""The greatest tables that can stand behind or ahead of a table (point 32)."""

from talepost.letters import check_alphabets
from talepost.tables import Table


def greatest_behind(first, whole):
    """The greatest table x for which `first * x` is within the whole."""
    check_alphabets([first, whole])
    before = ~first
    return Table(first.alphabet, [(mid, out) for mid, out in Table.full(first.alphabet).pairs()
                                  if all([(told, out) in whole for told in before[mid]])])


def greatest_ahead(last, whole):
    """The greatest table x for which `x * last` is within the whole."""
    check_alphabets([last, whole])
    return Table(last.alphabet, [(told, mid) for told, mid in Table.full(last.alphabet).pairs()
                                 if all([(told, out) in whole for out in last[mid]])])


def further(first, whole):
    """The greatest table x for which `first * x` is the whole, or None if there is none."""
    found = greatest_behind(first, whole)
    return found if first * found == whole else None


def earlier(last, whole):
    """The greatest table x for which `x * last` is the whole, or None if there is none."""
    found = greatest_ahead(last, whole)
    return found if found * last == whole else None
