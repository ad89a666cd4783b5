"""Casts: people under letters, and the rows in which they stand (points 35 and 36)."""

from talepost.errors import BadLetter, TooMany, UnknownLetter
from talepost.letters import check_alphabets, check_shared
from talepost.tables import Table

MOST_PEOPLE = 8


class Cast:
    """At most eight people, each under a letter from A to Z."""

    def __init__(self, alphabet, **people):
        check_shared(alphabet, list(people.values()))
        tables = {}
        for letter in sorted(list(people)):
            check_seat(tables, letter, MOST_PEOPLE)
            tables[letter] = people[letter].table
        self.alphabet = alphabet
        self._tables = tables

    def __len__(self):
        return len(self._tables)

    def __contains__(self, letter):
        return letter in self._tables

    def __getitem__(self, letter):
        if letter not in self._tables:
            raise UnknownLetter(letter, 0)
        return self._tables[letter]

    def __setitem__(self, letter, person):
        self.put(letter, person)

    def __iter__(self):
        raise TypeError("a cast cannot be iterated over")

    def put(self, letter, person):
        """Add the person under the letter, or replace the one who has it."""
        check_alphabets([self, person])
        check_seat(self._tables, letter, MOST_PEOPLE)
        self._tables[letter] = person.table

    def leave(self, letter):
        """Remove the person under the letter."""
        if letter not in self._tables:
            raise UnknownLetter(letter, 0)
        del self._tables[letter]

    def members(self):
        """The letters of all people in ascending order."""
        return sorted(list(self._tables))

    def through(self, row):
        """The product of the tables of the row."""
        check_row(self._tables, row)
        table = Table.identity(self.alphabet)
        for letter in row:
            table = table * self._tables[letter]
        return table


def check_seat(seats, letter, most):
    """Raise the first error of a new seat under the letter; `seats` has the others, at most so many."""
    if len(letter) != 1 or not "A" <= letter <= "Z":
        raise BadLetter(letter)
    if letter not in seats and len(seats) >= most:
        raise TooMany(most)


def check_row(seats, row):
    """Raise UnknownLetter for the first character of the row that is no letter of the seats."""
    for place, letter in enumerate(row):
        if letter not in seats:
            raise UnknownLetter(letter, place)
