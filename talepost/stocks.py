"""Stocks: sets of texts, often infinite, each with its least table (points 7 to 13)."""

from talepost.errors import BadTable
from talepost.letters import check_alphabets
from talepost.nets import backward, merged, settled
from talepost.shapes import shape_net


class Stock:
    """A set of texts. A text belongs to it if its steps from place 0 end at a good place."""

    def __init__(self, alphabet, rows, goods):
        check_rows(alphabet, rows, goods)
        least_rows, least_goods = least_table(alphabet, rows, goods)
        self.alphabet = alphabet
        self.rows = least_rows
        self.goods = least_goods

    @classmethod
    def every(cls, alphabet):
        """The stock of all texts."""
        return cls(alphabet, [[0 for _ in alphabet.signs]], [True])

    @classmethod
    def none(cls, alphabet):
        """The stock without texts."""
        return cls(alphabet, [[-1 for _ in alphabet.signs]], [False])

    @classmethod
    def listed(cls, alphabet, texts):
        """The stock of the texts of a list."""
        for text in texts:
            alphabet.check(text)
        rows, goods = listed_table(alphabet, texts)
        return cls(alphabet, rows, goods)

    @classmethod
    def shaped(cls, alphabet, shape):
        """The stock of the texts that a shape describes."""
        net, ends = shape_net(alphabet, shape)
        rows, goods = settled(alphabet.signs, net, ends)
        return cls(alphabet, rows, goods)

    def __eq__(self, other):
        return (isinstance(other, Stock) and self.alphabet == other.alphabet
                and self.rows == other.rows and self.goods == other.goods)

    def __bool__(self):
        return any(self.goods)

    def __contains__(self, text):
        place = 0
        for sign in text:
            at = self.alphabet.signs.find(sign)
            place = self.rows[place][at] if at >= 0 else -1
            if place < 0:
                return False
        return self.goods[place]

    def __and__(self, other):
        check_alphabets([self, other])
        pairs, rows = pair_table(self, other, True, True)
        return Stock(self.alphabet, rows, [good_in(self, p) and good_in(other, q) for p, q in pairs])

    def __or__(self, other):
        check_alphabets([self, other])
        pairs, rows = pair_table(self, other, False, False)
        return Stock(self.alphabet, rows, [good_in(self, p) or good_in(other, q) for p, q in pairs])

    def __sub__(self, other):
        check_alphabets([self, other])
        pairs, rows = pair_table(self, other, True, False)
        return Stock(self.alphabet, rows, [good_in(self, p) and not good_in(other, q) for p, q in pairs])

    def first(self):
        """The first text, or None."""
        return shortest_end(self, 0) if any(self.goods) else None

    def texts(self, most):
        """All texts of at most so many signs, in order."""
        reach = reach_table(self, most)
        for length in range(most + 1):
            stack = [(0, "")] if reach[length][0] else []
            while stack:
                place, text = stack.pop()
                left = length - len(text)
                if left == 0:
                    yield text
                else:
                    stack.extend(longer_texts(self, place, text, reach[left - 1]))

    def how_many(self, most):
        """The number of texts of at most so many signs."""
        many = 0
        ways = {0: 1}
        for _ in range(most + 1):
            many = many + sum([ways[place] for place in ways if self.goods[place]])
            after = {}
            for place in ways:
                for to in self.rows[place]:
                    if to >= 0:
                        after[to] = after.get(to, 0) + ways[place]
            ways = after
        return many

    def extent(self):
        """How long the texts can be: ("none",), ("most", n), or ("loop", a, b, c)."""
        if not any(self.goods):
            return ("none",)
        lengths = longest_ends(self)
        if 0 in lengths:
            return ("most", lengths[0])
        return loop_of(self, lengths)


def check_rows(alphabet, rows, goods):
    """Raise BadTable unless the table is one of a stock."""
    if len(rows) == 0 or len(rows) != len(goods):
        raise BadTable(-1)
    for place, row in enumerate(rows):
        if len(row) != len(alphabet.signs) or not all([-1 <= to < len(rows) for to in row]):
            raise BadTable(place)


def least_table(alphabet, rows, goods):
    """The rows and goods of the least table with the same texts."""
    steps = [[(at, to) for at, to in enumerate(row) if to >= 0] for row in rows]
    net, ends = merged(steps, [bool(good) for good in goods])
    return [[step_of(row, at) for at in range(len(alphabet.signs))] for row in net], ends


def step_of(row, at):
    """The next place of the step for one sign, or -1."""
    return max([-1] + [to for label, to in row if label == at])


def listed_table(alphabet, texts):
    """A table of the stock that has the texts of a list: a tree of their beginnings."""
    rows = [[-1 for _ in alphabet.signs]]
    goods = [False]
    for text in texts:
        place = 0
        for sign in text:
            at = alphabet.signs.index(sign)
            if rows[place][at] < 0:
                rows[place][at] = len(rows)
                rows.append([-1 for _ in alphabet.signs])
                goods.append(False)
            place = rows[place][at]
        goods[place] = True
    return rows, goods


def pair_table(first, second, need_first, need_second):
    """The pairs of places, or -1, that are met side by side, and their rows; a needed place is never -1."""
    pairs = [(0, 0)]
    number = {(0, 0): 0}
    rows = []
    while len(rows) < len(pairs):
        p, q = pairs[len(rows)]
        row = []
        for at in range(len(first.alphabet.signs)):
            to = (next_in(first, p, at), next_in(second, q, at))
            if to == (-1, -1) or (need_first and to[0] < 0) or (need_second and to[1] < 0):
                row.append(-1)
            else:
                if to not in number:
                    number[to] = len(pairs)
                    pairs.append(to)
                row.append(number[to])
        rows.append(row)
    return pairs, rows


def next_in(stock, place, at):
    """The next place for the sign with this index; after -1 there is only -1."""
    return stock.rows[place][at] if place >= 0 else -1


def good_in(stock, place):
    """Whether the place, which may be -1, is good."""
    return place >= 0 and stock.goods[place]


def shortest_end(stock, place):
    """The first text whose steps lead from the place to a good one."""
    far = distances(stock)
    text = ""
    while far[place] > 0:
        near = [at for at, to in enumerate(stock.rows[place]) if to >= 0 and far[to] == far[place] - 1]
        text = text + stock.alphabet.signs[near[0]]
        place = stock.rows[place][near[0]]
    return text


def distances(stock):
    """For each place from which a good place is reached, the least number of steps."""
    before = backward(steps_of(stock))
    order = [place for place, good in enumerate(stock.goods) if good]
    far = {}
    for place in order:
        far[place] = 0
    at = 0
    while at < len(order):
        here = order[at]
        for earlier in before[here]:
            if earlier not in far:
                far[earlier] = far[here] + 1
                order.append(earlier)
        at = at + 1
    return far


def steps_of(stock):
    """The table of the stock as a net."""
    signs = stock.alphabet.signs
    return [[(signs[at], to) for at, to in enumerate(row) if to >= 0] for row in stock.rows]


def reach_table(stock, most):
    """For each number of steps up to most, a list that tells of each place whether so many can end well."""
    reach = [list(stock.goods)]
    for _ in range(most):
        last = reach[-1]
        reach.append([any([to >= 0 and last[to] for to in row]) for row in stock.rows])
    return reach


def longer_texts(stock, place, text, reach):
    """The texts that are one sign longer, with their places, the last one first."""
    return [(to, text + stock.alphabet.signs[at])
            for at, to in list(enumerate(stock.rows[place]))[::-1] if to >= 0 and reach[to]]


def longest_ends(stock):
    """For each place that leads to no loop, the greatest number of steps that can follow."""
    steps = steps_of(stock)
    before = backward(steps)
    left = [len(row) for row in steps]
    lengths = {}
    queue = [place for place in range(len(left)) if left[place] == 0]
    while queue:
        place = queue.pop()
        lengths[place] = max([0] + [lengths[to] + 1 for _, to in steps[place]])
        for earlier in before[place]:
            left[earlier] = left[earlier] - 1
            if left[earlier] == 0:
                queue.append(earlier)
    return lengths


def loop_of(stock, lengths):
    """("loop", a, b, c) for a stock that has a loop; `lengths` has the places that lead to none."""
    steps = steps_of(stock)
    place = 0
    text = ""
    seen = {}
    while place not in seen:
        seen[place] = len(text)
        sign, place = [step for step in steps[place] if step[1] not in lengths][0]
        text = text + sign
    return ("loop", text[:seen[place]], text[seen[place]:], shortest_end(stock, place))


def differing(first, second):
    """The first text that belongs to exactly one of two stocks, or None."""
    check_alphabets([first, second])
    pairs, rows = pair_table(first, second, False, False)
    goods = [good_in(first, p) != good_in(second, q) for p, q in pairs]
    return Stock(first.alphabet, rows, goods).first()
