"""Stations, which never change (point 65)."""

from talepost.errors import BadCount, TooMany, Unbounded
from talepost.growth import shorter
from talepost.letters import check_alphabets, shortlex
from talepost.machines import Machine, any_of
from talepost.wiring import is_endless

MOST_MACHINES = 60


class Station:
    """The base class of the four kinds of stations."""

    def __init__(self, alphabet):
        self.alphabet = alphabet


class Plain(Station):
    """Says the text itself."""

    KIND = "plain"

    def machine(self):
        """The machine that says what the station says."""
        return Machine.identity(self.alphabet)

    def outs(self, text):
        """The list of the texts that the station says for the text."""
        self.alphabet.check(text)
        return [text]


class Fixed(Station):
    """Says what a machine says."""

    KIND = "fixed"

    def __init__(self, machine):
        check_bounded([machine])
        super().__init__(machine.alphabet)
        self._machine = machine

    def machine(self):
        """The machine that says what the station says."""
        return self._machine

    def outs(self, text):
        """The list of the texts that the station says for the text."""
        return self._machine.outs(text)


class Hearer(Station):
    """Says what a person may say."""

    KIND = "person"

    def __init__(self, person):
        super().__init__(person.alphabet)
        self.person = person

    def machine(self):
        """The machine that says what the station says."""
        return self.person.table.machine()

    def outs(self, text):
        """The list of the texts that the station says for the text."""
        return self.machine().outs(text)


class Hidden(Station):
    """Says what one machine of a list says; it is not known which. `choices` is the list."""

    KIND = "hidden"

    def __init__(self, machines):
        if len(machines) == 0:
            raise BadCount(0)
        check_alphabets(machines)
        if len(machines) > MOST_MACHINES:
            raise TooMany(MOST_MACHINES)
        check_bounded(machines)
        super().__init__(machines[0].alphabet)
        self.choices = list(machines)

    def machine(self):
        """The machine that says what at least one machine of the list says."""
        return any_of(self.alphabet, self.choices)

    def outs(self, text):
        """The list of the texts that the station says for the text."""
        return shortlex([out for machine in self.choices for out in machine.outs(text)])


def check_bounded(machines):
    """Raise Unbounded for the first machine that says infinitely many texts for some text."""
    for index, machine in enumerate(machines):
        if is_endless(shorter(machine)):
            raise Unbounded(index)
