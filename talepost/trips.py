"""Round trips: an old book writes a text, and a new book reads what was written (points 44 to 47)."""

from talepost.books import KINDS, Book, is_form, overlap
from talepost.choices import by_length
from talepost.errors import BadForm, TakenShort, TooMany, UnknownPlace
from talepost.leads import parting_text
from talepost.letters import check_alphabets
from talepost.machines import keeper
from talepost.nets import first_of_two
from talepost.scanning import expand, scan_rules, shorten
from talepost.standings import reader, scanner, writer
from talepost.wiring import reading_net

MOST_NAMES = 6

# No entry has this name: names have small letters only.
FURTHER = "+"


def round_trip(old, new, text):
    """What the new book reads in what the old book writes for the text."""
    check_alphabets([old, new])
    return expand(new, shorten(old, text))


def first_damage(old, new, stock):
    """The first text of the stock whose round trip is another text, or None."""
    check_alphabets([old, new, stock])
    return parting_text(writer(old) * reader(new), keeper(stock))


def first_use(book, name, stock):
    """The first text of the stock in whose writing the entry is used, or None."""
    check_alphabets([book, stock])
    return first_in(writer(book, using=name), stock)


def first_take(old, new, name, stock):
    """The first text of the stock for which the new book uses the entry, reading what the old one writes; or None."""
    check_alphabets([old, new, stock])
    taking = reader(new, taking=name)
    return first_in(writer(old) * taking, stock)


def first_clash(old, new, short, place, stock):
    """The first text of the stock for which an entry more of the new book would be used, or None if it is safe."""
    check_alphabets([old, new, stock])
    if not is_form(new.alphabet, short):
        raise BadForm(short)
    if place not in KINDS:
        raise UnknownPlace(place)
    for entry in new.entries():
        if entry[2] == short and overlap(entry[3], place):
            raise TakenShort(entry[0])
    # What stands for the short form makes no difference: the first use alone counts.
    rules = scan_rules(new, True) + [(FURTHER, short, short, KINDS[place])]
    taking = scanner(new.alphabet, rules, True, FURTHER)
    return first_in(writer(old) * taking, stock)


def first_in(machine, stock):
    """The first text of the stock for which the machine says something, or None."""
    kept = keeper(stock)
    return first_of_two((reading_net(machine), machine.goods), (reading_net(kept), kept.goods), True)


def strike(book, names):
    """The book without the entries of these names."""
    entries = [entry for entry in book.entries() if entry[0] not in names]
    return Book(book.alphabet, *entries)


def least_strike(old, new, stock):
    """The first list of the fewest names without whose entries the books damage no text of the stock."""
    check_alphabets([old, new, stock])
    names = sorted(set(old.names() + new.names()))
    if len(names) > MOST_NAMES:
        raise TooMany(MOST_NAMES)
    # Texts that some struck books damage are mostly damaged by others, too, and are quickly tried.
    damaged = []
    for struck in by_length(names):
        books = [strike(old, struck), strike(new, struck)]
        if all([round_trip(books[0], books[1], text) == text for text in damaged]):
            found = first_damage(books[0], books[1], stock)
            if found is None:
                return struck
            damaged.append(found)
    return names
