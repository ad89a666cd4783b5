"""Tables: which signs can come out of each sign (points 29 to 31)."""

from talepost.errors import BadEntry, BadPair, UnknownSign
from talepost.letters import check_alphabets
from talepost.machines import Machine


class Table:
    """A set of pairs (told, out) of signs."""

    def __init__(self, alphabet, pairs):
        for index, (told, out) in enumerate(pairs):
            if not (alphabet.is_sign(told) and alphabet.is_sign(out)):
                raise BadPair(index)
        self.alphabet = alphabet
        self._pairs = sorted(set([(told, out) for told, out in pairs]))

    @classmethod
    def identity(cls, alphabet):
        """The table out of which each sign comes as it is."""
        return cls(alphabet, [(sign, sign) for sign in alphabet.signs])

    @classmethod
    def full(cls, alphabet):
        """The table with all pairs."""
        return cls(alphabet, [(told, out) for told in alphabet.signs for out in alphabet.signs])

    @classmethod
    def empty(cls, alphabet):
        """The table without pairs."""
        return cls(alphabet, [])

    @classmethod
    def read(cls, alphabet, written):
        """The table that has this written form."""
        entries = written.split(" ")
        signs = alphabet.signs
        for index, entry in enumerate(entries):
            if index >= len(signs) or not is_entry(alphabet, signs[index], entry):
                raise BadEntry(index)
        if len(entries) < len(signs):
            raise BadEntry(len(entries))
        return cls(alphabet, [(entry[0], out) for entry in entries for out in entry[2:] if out != "."])

    @property
    def total(self):
        """Whether at least one sign can come out of each sign."""
        return all([self[sign] != "" for sign in self.alphabet.signs])

    @property
    def exact(self):
        """Whether at most one sign can come out of each sign."""
        return all([len(self[sign]) <= 1 for sign in self.alphabet.signs])

    def __getitem__(self, sign):
        if not self.alphabet.is_sign(sign):
            raise UnknownSign(sign)
        return "".join([out for told, out in self._pairs if told == sign])

    def __iter__(self):
        raise TypeError("a table cannot be iterated over")

    def __contains__(self, pair):
        return pair in self._pairs

    def __len__(self):
        return len(self._pairs)

    def __bool__(self):
        return bool(self._pairs)

    def __str__(self):
        return " ".join([f"{sign}>{self[sign] or '.'}" for sign in self.alphabet.signs])

    def __eq__(self, other):
        return isinstance(other, Table) and self.alphabet == other.alphabet and self._pairs == other._pairs

    def __mul__(self, other):
        check_alphabets([self, other])
        return Table(self.alphabet, [(told, out) for told, mid in self._pairs for out in other[mid]])

    def __or__(self, other):
        check_alphabets([self, other])
        return Table(self.alphabet, self._pairs + other._pairs)

    def __and__(self, other):
        check_alphabets([self, other])
        return Table(self.alphabet, [pair for pair in self._pairs if pair in other._pairs])

    def __invert__(self):
        return Table(self.alphabet, [(out, told) for told, out in self._pairs])

    def pairs(self):
        """All pairs in ascending order."""
        return list(self._pairs)

    def within(self, other):
        """Whether each pair is in the other table."""
        check_alphabets([self, other])
        return all([pair in other for pair in self._pairs])

    def machine(self):
        """The machine that passes a text on sign by sign."""
        return Machine(self.alphabet, [[(told, out, 0) for told, out in self._pairs]], [True])


def is_entry(alphabet, sign, entry):
    """Whether the string is an entry of a written table for the sign."""
    outs = entry[2:]
    return entry[:2] == sign + ">" and (outs == "." or (outs != "" and alphabet.are_ascending(outs)))
