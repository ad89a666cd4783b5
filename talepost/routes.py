"""Routes: one row of stations, built step by step, that keeps the texts of a stock apart (points 80 to 83)."""

from talepost.errors import BadCount, BadIndex, Melted, NothingToRedo, NothingToUndo, Refused, TaleError, TooLong
from talepost.errors import UnknownLetter
from talepost.letters import check_alphabets
from talepost.sure import melted

ROUTE_LIMIT = 8
MOST_LIMIT = 12


class Route:
    """A row and a ledger, with the changes that led to them. Each state is a pair (row, ledger)."""

    def __init__(self, ledger, stock, *, limit=ROUTE_LIMIT):
        check_alphabets([ledger, stock])
        check_limit(limit)
        self.alphabet = ledger.alphabet
        self._stock = stock
        self._limit = limit
        # The ledger of a state never changes: a change of the ledger makes a state with another one.
        self._state = ("", ledger.twin())
        self._past = []
        self._future = []

    def __len__(self):
        return len(self._state[0])

    def __iadd__(self, letters):
        row = self._state[0]
        for letter in letters:
            self.check_letter(letter, len(row))
            row = row + letter
            self.check_apart(row, self._state[1])
        if letters != "":
            self.change(row, self._state[1])
        return self

    @property
    def row(self):
        """The letters of the stations in order."""
        return self._state[0]

    @property
    def past(self):
        """The number of changes that can be taken back."""
        return len(self._past)

    @property
    def future(self):
        """The number of changes that can be made again."""
        return len(self._future)

    @property
    def limit(self):
        """The greatest number of letters of the row."""
        return self._limit

    @limit.setter
    def limit(self, value):
        self.change_limit(value)

    def machine(self):
        """The machine of the row, in all worlds together that are left."""
        row, ledger = self._state
        return ledger.through(row)

    def ledger(self):
        """A twin of the ledger."""
        return self._state[1].twin()

    def outs(self, text):
        """The list of the texts that the machine says for the text."""
        row, ledger = self._state
        return ledger.outs(row, text)

    def told_back(self, out):
        """The one text of the stock for which the machine says `out`, or None."""
        row, ledger = self._state
        return ledger.senders(row, out, self._stock).first()

    def add(self, letter):
        """Add a station at the end."""
        self.insert(len(self), letter)

    def insert(self, at, letter):
        """Insert a station ahead of the place."""
        self.check_place(at, len(self))
        self.check_letter(letter, len(self))
        row, ledger = self._state
        self.change_apart(row[:at] + letter + row[at:], ledger)

    def take(self, at):
        """Remove the letter at the place."""
        self.check_place(at, len(self) - 1)
        row, ledger = self._state
        self.change_apart(row[:at] + row[at + 1:], ledger)

    def swap(self, at):
        """Exchange the letters at the place and behind it."""
        self.check_place(at, len(self) - 2)
        row, ledger = self._state
        self.change_apart(row[:at] + row[at + 1] + row[at] + row[at + 2:], ledger)

    def see(self, row, text, out):
        """Add an entry to the ledger. Returns its number."""
        ledger = self.ledger()
        number = ledger.see(row, text, out)
        self.change_apart(self._state[0], ledger)
        return number

    def withdraw(self, number):
        """Remove an entry from the ledger."""
        ledger = self.ledger()
        ledger.withdraw(number)
        self.change_apart(self._state[0], ledger)

    def change_limit(self, limit):
        """Set the greatest number of letters of the row."""
        check_limit(limit)
        if len(self) > limit:
            raise TooLong(limit)
        self._limit = limit

    def undo(self):
        """Take back the latest change that is in force."""
        if not self._past:
            raise NothingToUndo()
        self._future.append(self._state)
        self._state = self._past.pop()

    def redo(self):
        """Make the change again that was taken back last."""
        if not self._future:
            raise NothingToRedo()
        self._past.append(self._state)
        self._state = self._future.pop()

    def twin(self):
        """An independent route in the same state, with the same history."""
        other = Route(self._state[1], self._stock, limit=self._limit)
        other.become(self)
        return other

    def become(self, other):
        """Take over the state, the limit and the history of a route with the same stock."""
        self._state = other._state
        self._limit = other._limit
        self._past = list(other._past)
        self._future = list(other._future)

    def check_place(self, at, last):
        """Raise BadIndex unless the place is from 0 to the last one."""
        if not 0 <= at <= last:
            raise BadIndex(at)

    def check_letter(self, letter, length):
        """Raise the first error of one letter more in a row of this length."""
        if not self._state[1].has(letter):
            raise UnknownLetter(letter, 0)
        if length >= self._limit:
            raise TooLong(self._limit)

    def check_apart(self, row, ledger):
        """Raise Melted if texts of the stock melt in the row."""
        found = melted(ledger.through_on(row, self._stock), self._stock)
        if found is not None:
            out, one, other = found
            raise Melted(out, one, other)

    def change_apart(self, row, ledger):
        """Make the change to this state, in which no texts may melt."""
        self.check_apart(row, ledger)
        self.change(row, ledger)

    def change(self, row, ledger):
        """Make the change to this state."""
        self._past.append(self._state)
        self._future = []
        self._state = (row, ledger)


def check_limit(limit):
    """Raise BadCount unless the limit is one of letters that a route may have."""
    if not 0 <= limit <= MOST_LIMIT:
        raise BadCount(limit)


def attempt(route, deeds):
    """Carry out all deeds of a list, or none. Returns their number."""
    changed = route.twin()
    for index, deed in enumerate(deeds):
        try:
            carry_out(changed, deed)
        except TaleError as refusal:
            raise Refused(index) from refusal
    route.become(changed)
    return len(deeds)


def carry_out(route, deed):
    """Carry out one deed."""
    name, *rest = deed
    if name == "add":
        route.add(rest[0])
    elif name == "insert":
        route.insert(rest[0], rest[1])
    elif name == "take":
        route.take(rest[0])
    elif name == "swap":
        route.swap(rest[0])
    elif name == "see":
        route.see(rest[0], rest[1], rest[2])
    elif name == "withdraw":
        route.withdraw(rest[0])
    elif name == "undo":
        route.undo()
    elif name == "redo":
        route.redo()
    else:
        route.change_limit(rest[0])
