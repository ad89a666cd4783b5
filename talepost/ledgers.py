"""Ledgers: what was seen of a post with hidden stations, and what it tells (points 77 and 78)."""

from talepost.casts import check_row
from talepost.errors import BadCount, NoWorld, UnknownEntry, UnknownLetter, UnknownWorld
from talepost.leads import parting_text
from talepost.letters import check_alphabets, shortlex
from talepost.machines import keeper
from talepost.nets import earliest, first_of_two
from talepost.rowruns import groups_of, hidden_letters, outs_along, product_along, senders_along, spoken_along
from talepost.rowruns import union_along
from talepost.sure import sooner_alone
from talepost.wiring import writing_net


class Ledger:
    """Entries (number, row, text, out) of a post. A world that misses more than `limit` of them is out."""

    def __init__(self, post, *, limit=0):
        check_limit(limit)
        self.alphabet = post.alphabet
        self._post = post.twin()
        self._limit = limit
        self._entries = {}
        # For each number of an entry, the worlds that miss it.
        self._missing = {}
        self._next = 0

    def __len__(self):
        return len(self._entries)

    def see(self, row, text, out):
        """Add an entry. Returns its number."""
        check_row(self._post, row)
        self.alphabet.check(text)
        self.alphabet.check(out)
        missing = {}
        for setting, worlds in groups_of(self._post, self._post.worlds(), row):
            if not spoken_along(self._post, setting, row, text).says("", out):
                for world in worlds:
                    missing[world] = True
        number = self._next
        self.check_left({**self._missing, number: missing}, self._limit)
        self._entries[number] = (number, row, text, out)
        self._missing[number] = missing
        self._next = number + 1
        return number

    def withdraw(self, number):
        """Remove an entry."""
        if number not in self._entries:
            raise UnknownEntry(number)
        del self._entries[number]
        del self._missing[number]

    def change_limit(self, limit):
        """Set how many entries a world that is left may miss."""
        check_limit(limit)
        self.check_left(self._missing, limit)
        self._limit = limit

    def check_left(self, missing, limit):
        """Raise NoWorld if each world misses more entries than the limit; `missing` has its worlds for each entry."""
        fewest = min([many_missed(missing, world) for world in self._post.worlds()])
        if fewest > limit:
            raise NoWorld(fewest)

    @property
    def limit(self):
        """How many entries a world that is left may miss."""
        return self._limit

    @limit.setter
    def limit(self, value):
        self.change_limit(value)

    @property
    def many(self):
        """The number of the worlds that are left."""
        return len(self.left())

    def entries(self):
        """The entries in ascending order."""
        return list(self._entries.values())

    def worlds(self):
        """All worlds of the post in ascending order."""
        return self._post.worlds()

    def left(self):
        """The worlds that are left, in ascending order."""
        return [world for world in self._post.worlds() if many_missed(self._missing, world) <= self._limit]

    def misses(self, world):
        """The numbers of the entries that the world misses, in ascending order."""
        if world not in self._post.worlds():
            raise UnknownWorld(world)
        return [number for number in self._missing if world in self._missing[number]]

    def twin(self):
        """An independent ledger that is equal to this one."""
        other = Ledger(self._post, limit=self._limit)
        other._entries = dict(self._entries)
        other._missing = dict(self._missing)
        other._next = self._next
        return other

    def machines_left(self, letter):
        """The indexes of the machines that the hidden station uses in some world that is left."""
        hidden = hidden_letters(self._post)
        if letter not in hidden:
            raise UnknownLetter(letter, 0)
        at = hidden.index(letter)
        return sorted(set([world[at] for world in self.left()]))

    def has(self, letter):
        """Whether a station of the post has the letter."""
        return letter in self._post

    def through(self, row):
        """A machine that says what the row says in at least one world that is left."""
        check_row(self._post, row)
        return union_along(self._post, self.left(), row)

    def through_on(self, row, stock):
        """The machine of a row of known letters, in the worlds that are left, for the texts of the stock alone."""
        return union_along(self._post, self.left(), row, stock)

    def outs(self, row, text):
        """The texts that the row says for the text in at least one world that is left."""
        self.check_question(row, [text])
        return outs_along(self._post, self.left(), row, text)

    def senders(self, row, out, stock):
        """The stock of those texts of the stock for which the row says `out` in at least one world that is left."""
        check_alphabets([self, stock])
        self.check_question(row, [out])
        return senders_along(self._post, self.left(), row, out, stock)

    def check_question(self, row, texts):
        """Raise the first error of a question about texts in a row."""
        check_row(self._post, row)
        for text in texts:
            self.alphabet.check(text)

    def spoken(self, row, text):
        """Pairs (machine, worlds): a machine that says for the empty text what the row says in these worlds."""
        return [(spoken_along(self._post, setting, row, text), worlds)
                for setting, worlds in groups_of(self._post, self.left(), row)]

    def answers(self, row, text):
        """Pairs (out, worlds): the texts that the row says for the text, each with the worlds in which it does."""
        self.check_question(row, [text])
        found = {}
        for machine, worlds in self.spoken(row, text):
            for out in earliest(writing_net(machine), machine.goods, None):
                found[out] = found.get(out, []) + worlds
        return [(out, sorted(found[out])) for out in shortlex(list(found))]

    def silent(self, row, text):
        """The worlds that are left in which the row says nothing for the text."""
        self.check_question(row, [text])
        return sorted([world for machine, worlds in self.spoken(row, text)
                       if not bool(machine.domain()) for world in worlds])

    def sure(self, row, text):
        """The text that the row says for the text in each world that is left, if it says nothing else; or None."""
        self.check_question(row, [text])
        outs = [earliest(writing_net(machine), machine.goods, 2) for machine, _ in self.spoken(row, text)]
        return outs[0][0] if len(outs[0]) == 1 and all([said == outs[0] for said in outs]) else None

    def unsure(self, row, stock):
        """The first text of the stock for which no text is sure, or None."""
        check_alphabets([self, stock])
        check_row(self._post, row)
        kept = keeper(stock)
        spoken = self.through_on(row, stock)
        found = parting_text(spoken, spoken)
        for setting, _ in groups_of(self._post, self.left(), row):
            machine = product_along(self._post, setting, row, stock)
            found = sooner_alone(found, machine, kept)
        return found

    def verdict(self, row, one, two):
        """Whether the same text can come out of both: always, sometimes or never, by the worlds that are left."""
        self.check_question(row, [one, two])
        common = []
        for (first, _), (second, _) in zip(self.spoken(row, one), self.spoken(row, two)):
            nets = [(writing_net(machine), machine.goods) for machine in [first, second]]
            common.append(first_of_two(nets[0], nets[1], True) is not None)
        if all(common):
            return "always"
        return "sometimes" if any(common) else "never"


def check_limit(limit):
    """Raise BadCount if the limit is negative."""
    if limit < 0:
        raise BadCount(limit)


def many_missed(missing, world):
    """How many entries the world misses."""
    return sum([1 for number in missing if world in missing[number]])
