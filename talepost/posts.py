"""Posts: stations under letters, and what rows of them say (points 66 to 68)."""

from talepost.casts import Cast, check_row, check_seat
from talepost.errors import TooMany, UnknownLetter, UnknownWorld
from talepost.letters import check_alphabets, check_shared
from talepost.rowruns import hidden_letters, outs_along, union_along
from talepost.stations import Fixed, Hearer, Hidden, Plain

MOST_STATIONS = 8
MOST_WORLDS = 64


class Post:
    """At most eight stations, each under a letter from A to Z, with at most 64 worlds."""

    def __init__(self, alphabet, **stations):
        check_shared(alphabet, list(stations.values()))
        seats = {}
        for letter in sorted(list(stations)):
            check_station(seats, letter, stations[letter])
            seats[letter] = stations[letter]
        self.alphabet = alphabet
        self._stations = seats

    def __len__(self):
        return len(self._stations)

    def __contains__(self, letter):
        return letter in self._stations

    def __getitem__(self, letter):
        if letter not in self._stations:
            raise UnknownLetter(letter, 0)
        return self._stations[letter]

    def __setitem__(self, letter, station):
        self.put(letter, station)

    def __iter__(self):
        raise TypeError("a post cannot be iterated over")

    def put(self, letter, station):
        """Add the station under the letter, or replace the one that has it."""
        check_alphabets([self, station])
        check_station(self._stations, letter, station)
        self._stations[letter] = station

    def leave(self, letter):
        """Remove the station under the letter."""
        if letter not in self._stations:
            raise UnknownLetter(letter, 0)
        del self._stations[letter]

    def members(self):
        """The letters of all stations in ascending order."""
        return sorted(list(self._stations))

    def cast(self):
        """A new cast of the people."""
        cast = Cast(self.alphabet)
        for letter in self._stations:
            if isinstance(self._stations[letter], Hearer):
                cast.put(letter, self._stations[letter].person)
        return cast

    def twin(self):
        """A new post with the same stations."""
        return self.plain("")

    def plain(self, letters):
        """A new post in which the stations with these letters are plain."""
        check_row(self._stations, letters)
        changed = {letter: Plain(self.alphabet) for letter in letters}
        return self.changed(changed)

    def changed(self, others):
        """A new post with these stations instead of those that have the same letters."""
        stations = {**self._stations, **others}
        return Post(self.alphabet, **stations)

    def worlds(self):
        """All worlds in ascending order."""
        worlds = [()]
        for letter in hidden_letters(self):
            worlds = [(*world, index) for world in worlds for index in range(len(self._stations[letter].choices))]
        return worlds

    def settled(self, world):
        """A new post in which each hidden station is the fixed one that it is in this world."""
        if world not in self.worlds():
            raise UnknownWorld(world)
        return self.changed({letter: Fixed(self._stations[letter].choices[index])
                             for letter, index in zip(hidden_letters(self), world)})

    def through(self, row):
        """The machine of the row: it says what the row says in at least one world."""
        check_row(self._stations, row)
        return union_along(self, self.worlds(), row)

    def through_on(self, row, stock):
        """The machine of a row of known letters, for the texts of the stock alone."""
        return union_along(self, self.worlds(), row, stock)

    def outs(self, row, text):
        """The list of the texts that the row says for the text in at least one world."""
        check_row(self._stations, row)
        self.alphabet.check(text)
        return outs_along(self, self.worlds(), row, text)


def check_station(stations, letter, station):
    """Raise the first error of putting the station under the letter."""
    check_seat(stations, letter, MOST_STATIONS)
    worlds = many_machines(station)
    for other in stations:
        if other != letter:
            worlds = worlds * many_machines(stations[other])
    if worlds > MOST_WORLDS:
        raise TooMany(MOST_WORLDS)


def many_machines(station):
    """The number of the machines of which a station may use any."""
    return len(station.choices) if isinstance(station, Hidden) else 1
