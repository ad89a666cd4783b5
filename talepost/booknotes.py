"""The written form of books: a line for each entry (point 48)."""

from talepost.books import Book, check_entry
from talepost.errors import BadLine, TaleError


def format_book(book):
    """The written form of the book: lines of name, place, long form and short form."""
    return "".join([f"{name} {place} {long} {short}\n" for name, long, short, place in book.entries()])


def parse_book(alphabet, text):
    """The book that has this written form; its lines may stand in any order."""
    *lines, rest = text.split("\n")
    entries = []
    for at, line in enumerate(lines):
        parts = line.split(" ")
        if len(parts) != 4 or len(entries) == Book.MOST:
            raise BadLine(at + 1)
        name, place, long, short = parts
        try:
            check_entry(alphabet, (name, long, short, place), entries)
        except TaleError:
            raise BadLine(at + 1) from None
        entries.append((name, long, short, place))
    if rest != "":
        raise BadLine(len(lines) + 1)
    return Book(alphabet, *entries)
