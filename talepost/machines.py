"""Letter machines, which say texts for texts (points 14 to 18)."""

from talepost.errors import BadTable
from talepost.letters import check_alphabets
from talepost.nets import earliest, settled
from talepost.stocks import Stock
from talepost.wiring import inverse_arcs, is_endless, pairs_table, product_table, reading_net
from talepost.wiring import spelled_table, tidy, union_table, writing_net


class Machine:
    """A table of arcs (read, write, next) for each place; walks from place 0 to a good place say texts for texts."""

    def __init__(self, alphabet, arcs, goods):
        check_lengths(arcs, goods)
        for place, row in enumerate(arcs):
            if not all([is_arc(alphabet, arc, len(arcs)) for arc in row]):
                raise BadTable(place)
        self.alphabet = alphabet
        self.arcs = [[(read, write, to) for read, write, to in row] for row in arcs]
        self.goods = list(goods)

    @classmethod
    def identity(cls, alphabet):
        """The machine that says each text for itself."""
        return cls(alphabet, [[(sign, sign, 0) for sign in alphabet.signs]], [True])

    @classmethod
    def of_pairs(cls, alphabet, pairs):
        """The machine that says exactly the pairs (text, out) of a list."""
        for text, out in pairs:
            alphabet.check(text)
            alphabet.check(out)
        arcs, goods = pairs_table(pairs)
        return cls(alphabet, arcs, goods)

    @classmethod
    def spelled(cls, alphabet, rows, ends):
        """The machine of a table that writes several signs in one step."""
        check_lengths(rows, ends)
        for place, row in enumerate(rows):
            fits = all([is_spelled(alphabet, step, len(rows)) for step in row])
            if not fits or not (ends[place] is None or alphabet.is_text(ends[place])):
                raise BadTable(place)
        arcs, goods = spelled_table(rows, ends)
        return cls(alphabet, arcs, goods)

    def __len__(self):
        return len(self.arcs)

    def __mul__(self, other):
        check_alphabets([self, other])
        arcs, goods = product_table(self, other)
        return Machine(self.alphabet, arcs, goods)

    def __or__(self, other):
        check_alphabets([self, other])
        arcs, goods = union_table([self, other])
        return Machine(self.alphabet, arcs, goods)

    def __invert__(self):
        return Machine(self.alphabet, inverse_arcs(self.arcs), self.goods)

    def on(self, stock):
        """The machine that says the same, but only for the texts of the stock."""
        check_alphabets([self, stock])
        return keeper(stock) * self

    def into(self, stock):
        """The machine that says the same, but only those texts that belong to the stock."""
        check_alphabets([self, stock])
        return self * keeper(stock)

    def image(self, stock):
        """The stock of the texts that are said for at least one text of the stock."""
        check_alphabets([self, stock])
        spoken = self.on(stock)
        rows, goods = settled(self.alphabet.signs, writing_net(spoken), spoken.goods)
        return Stock(self.alphabet, rows, goods)

    def source(self, stock):
        """The stock of the texts for which at least one text of the stock is said."""
        check_alphabets([self, stock])
        return self.into(stock).domain()

    def domain(self):
        """The stock of the texts for which something is said."""
        rows, goods = settled(self.alphabet.signs, reading_net(self), self.goods)
        return Stock(self.alphabet, rows, goods)

    def outs(self, text):
        """The list of the texts that are said for the text, or None if there are infinitely many."""
        self.alphabet.check(text)
        spoken = self.on(Stock.listed(self.alphabet, [text]))
        return None if is_endless(spoken) else earliest(writing_net(spoken), spoken.goods, None)

    def says(self, text, out):
        """Whether the machine says `out` for `text`."""
        self.alphabet.check(text)
        self.alphabet.check(out)
        seen = {(0, 0, 0): True}
        queue = [(0, 0, 0)]
        while queue:
            place, heard, said = queue.pop()
            if heard == len(text) and said == len(out) and self.goods[place]:
                return True
            for read, write, to in self.arcs[place]:
                step = (to, heard + len(read), said + len(write))
                if text.startswith(read, heard) and out.startswith(write, said) and step not in seen:
                    seen[step] = True
                    queue.append(step)
        return False


def check_lengths(rows, goods):
    """Raise BadTable unless there are places and there is one of the goods or ends for each."""
    if len(rows) == 0 or len(rows) != len(goods):
        raise BadTable(-1)


def is_label(alphabet, sign):
    """Whether the string is a sign or the empty string."""
    return sign == "" or alphabet.is_sign(sign)


def is_arc(alphabet, arc, many):
    """Whether the arc can stand in a table with so many places."""
    read, write, to = arc
    return is_label(alphabet, read) and is_label(alphabet, write) and 0 <= to < many


def is_spelled(alphabet, step, many):
    """Whether the step, which may write several signs, can stand in a table with so many places."""
    read, written, to = step
    return is_label(alphabet, read) and alphabet.is_text(written) and 0 <= to < many


def keeper(stock):
    """The machine that says each text of the stock for itself, and nothing else."""
    signs = stock.alphabet.signs
    arcs = [[(signs[at], signs[at], to) for at, to in enumerate(row) if to >= 0] for row in stock.rows]
    return Machine(stock.alphabet, arcs, stock.goods)


def any_of(alphabet, machines):
    """The machine that says what at least one machine of a list says."""
    arcs, goods = union_table(machines)
    return Machine(alphabet, arcs, goods)


def first_outs(machine, text, most):
    """The first texts that the machine says for the text, in order, at most so many."""
    spoken = machine.on(Stock.listed(machine.alphabet, [text]))
    return earliest(writing_net(spoken), spoken.goods, most)


def first_heard(machine):
    """The first text for which the machine says something, or None."""
    heard = earliest(reading_net(machine), machine.goods, 1)
    return heard[0] if heard else None


def listener(machine):
    """The machine that says each text of the machine's domain for itself, and nothing else."""
    arcs, goods = tidy([[(read, read, to) for read, _, to in row] for row in machine.arcs], machine.goods)
    return Machine(machine.alphabet, arcs, goods)
