"""Lots: the tables of all rows of a cast, whatever their length (point 37)."""

from talepost.casts import check_row
from talepost.errors import TooMany
from talepost.letters import check_alphabets
from talepost.machines import Machine
from talepost.tables import Table
from talepost.wiring import tidy

MOST_TABLES = 150


class Lot:
    """The different tables of all rows, each with its name, the least row that has it."""

    def __init__(self, cast, *, most=MOST_TABLES):
        if most < 1:
            raise TooMany(most)
        people = {letter: cast[letter] for letter in cast.members()}
        tables = [Table.identity(cast.alphabet)]
        names = [""]
        number = {str(tables[0]): 0}
        steps = []
        # The letters are tried in ascending order, behind the names in order: so each new table has its least row.
        while len(steps) < len(tables):
            name, here = names[len(steps)], tables[len(steps)]
            leading_to = {}
            for letter in people:
                table = here * people[letter]
                written = str(table)
                if written not in number:
                    if len(tables) >= most:
                        raise TooMany(most)
                    number[written] = len(tables)
                    names.append(name + letter)
                    tables.append(table)
                leading_to[letter] = number[written]
            steps.append(leading_to)
        self.alphabet = cast.alphabet
        self._names = names
        self._tables = tables
        self._number = number
        self._steps = steps

    def __len__(self):
        return len(self._tables)

    def __contains__(self, table):
        return table.alphabet == self.alphabet and str(table) in self._number

    def names(self):
        """The names of all tables in order."""
        return list(self._names)

    def walk(self):
        """The pairs (name, table) in order."""
        for number, name in enumerate(self._names):
            yield name, self._tables[number]

    def name_of(self, table):
        """The name of the table, or None if no row has it."""
        check_alphabets([self, table])
        written = str(table)
        return self._names[self._number[written]] if written in self._number else None

    def least(self, row):
        """The least row that has the same table as the row."""
        return self._names[self.number_of(row)]

    def behind(self, row, other):
        """The least row w for which `row + w` has the table of the other row, or None."""
        start = self.number_of(row)
        end = self.number_of(other)
        ways = {start: ""}
        queue = [start]
        done = 0
        while done < len(queue):
            here = queue[done]
            done = done + 1
            for letter in self._steps[here]:
                to = self._steps[here][letter]
                if to not in ways:
                    ways[to] = ways[here] + letter
                    queue.append(to)
        return ways.get(end, None)

    def number_of(self, row):
        """The number of the table of the row."""
        check_row(self._steps[0], row)
        number = 0
        for letter in row:
            number = self._steps[number][letter]
        return number

    def union(self):
        """The table of the pairs that are in at least one table."""
        return Table(self.alphabet, [pair for table in self._tables for pair in table.pairs()])

    def machine(self):
        """A machine that says what at least one row says: all signs of a text go through the same row."""
        rows = [[(told, out, at + 1) for told, out in table.pairs()]
                for at, table in enumerate(greatest_of(self._tables))]
        first = [arc for row in rows for arc in row]
        arcs, goods = tidy([first, *rows], [True for _ in range(len(rows) + 1)])
        return Machine(self.alphabet, arcs, goods)


def greatest_of(tables):
    """The tables that are not within another one of a list of different tables."""
    kept = []
    for table in sorted(tables, key=len, reverse=True):
        if not any([table.within(other) for other in kept]):
            kept.append(table)
    return kept
