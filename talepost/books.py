"""Books: sets of entries that shorten texts and lengthen them again (points 39 and 40)."""

from talepost.errors import BadForm, BadName, Conflict, DuplicateName, TooMany, UnknownName, UnknownPlace

LONGEST_NAME = 8
LONGEST_FORM = 6

# The kinds that each place allows before an entry.
KINDS = {"any": ("start", "joint", "letter"), "opening": ("start", "joint"), "inner": ("letter",)}


class Book:
    """At most eight entries (name, long, short, place) with different names, no two of which conflict."""

    MOST = 8

    def __init__(self, alphabet, *entries):
        if len(entries) > Book.MOST:
            raise TooMany(Book.MOST)
        for at, entry in enumerate(entries):
            check_entry(alphabet, entry, entries[:at])
        self.alphabet = alphabet
        self._entries = {entry[0]: entry for entry in sorted(entries)}

    def __len__(self):
        return len(self._entries)

    def __contains__(self, name):
        return name in self._entries

    def __getitem__(self, name):
        if name not in self._entries:
            raise UnknownName(name)
        return self._entries[name]

    def __iter__(self):
        raise TypeError("a book cannot be iterated over")

    def __add__(self, entry):
        entries = self.entries() + [entry]
        return Book(self.alphabet, *entries)

    def __sub__(self, name):
        if name not in self._entries:
            raise UnknownName(name)
        entries = [entry for entry in self.entries() if entry[0] != name]
        return Book(self.alphabet, *entries)

    def __eq__(self, other):
        return isinstance(other, Book) and self.alphabet == other.alphabet and self.entries() == other.entries()

    def names(self):
        """The names in ascending order."""
        return list(self._entries)

    def entries(self):
        """The entries in ascending order of their names."""
        return [self._entries[name] for name in self._entries]


def check_entry(alphabet, entry, earlier):
    """Raise the first error of an entry that follows other entries."""
    name, long, short, place = entry
    if not 1 <= len(name) <= LONGEST_NAME or not all(["a" <= letter <= "z" for letter in name]):
        raise BadName(name)
    for form in [long, short]:
        if not is_form(alphabet, form):
            raise BadForm(form)
    if place not in KINDS:
        raise UnknownPlace(place)
    if any([name == other[0] for other in earlier]):
        raise DuplicateName(name)
    for other in earlier:
        if conflict(entry, other):
            raise Conflict(name, other[0])


def is_form(alphabet, form):
    """Whether the string is a text of one to six signs."""
    return 1 <= len(form) <= LONGEST_FORM and alphabet.is_text(form)


def overlap(place, other):
    """Whether two places of entries allow a common kind."""
    return place == other or place == "any" or other == "any"


def conflict(entry, other):
    """Whether two entries have a form in common under places that overlap."""
    return overlap(entry[3], other[3]) and (entry[1] == other[1] or entry[2] == other[2])
