"""Plans: questions that find out which world is the right one (point 79)."""

from talepost.choices import by_length
from talepost.errors import NoPlan, TooMany
from talepost.stocks import Stock

MOST_LEFT = 5


def plan(ledger, row, *texts):
    """A plan of the least depth: rows (worlds, text, branches)."""
    game = Game(ledger, row, texts)
    game.check_plan()
    rows = []
    waiting = [game.start]
    while len(rows) < len(waiting):
        worlds = waiting[len(rows)]
        text = game.best_text(worlds)
        branches = []
        for answer, possible in game.answers(worlds, text):
            branches.append((answer, len(waiting)))
            waiting.append(possible)
        rows.append((worlds, text, branches))
    return rows


def depth(ledger, row, *texts):
    """The least depth of a plan."""
    game = Game(ledger, row, texts)
    game.check_plan()
    return game.level(game.start)


def stall(ledger, row, *texts):
    """Rows (worlds, budget, replies) which show that no plan is less deep, or that there is none."""
    game = Game(ledger, row, texts)
    level = game.level(game.start)
    if level == 0:
        return []
    waiting = [(game.start, None if level is None else level - 1)]
    rows = []
    while len(rows) < len(waiting):
        worlds, budget = waiting[len(rows)]
        replies = []
        if budget != 0:
            for text in texts:
                answer, kept = game.reply(worlds, budget, text)
                ahead = (kept, None if budget is None else budget - 1)
                if ahead not in waiting:
                    waiting.append(ahead)
                replies.append((answer, waiting.index(ahead)))
        rows.append((list(worlds), budget, replies))
    return rows


class Game:
    """The worlds that are left, the questions, and what can be answered to them in each world."""

    def __init__(self, ledger, row, texts):
        ledger.check_question(row, texts)
        left = ledger.left()
        if len(left) > MOST_LEFT:
            raise TooMany(MOST_LEFT)
        self.start = left
        self._outs = {text: outs_by_world(ledger, row, text) for text in texts}
        # For each text, the lists of two or more worlds in all of which one and the same answer can be given.
        self._alike = {text: [group for group in by_length(left) if len(group) > 1 and self.common(text, group)]
                       for text in self._outs}
        self._levels = {}
        for worlds in by_length(left)[1:]:
            self._levels[tuple(worlds)] = self.least_need(worlds)

    def check_plan(self):
        """Raise NoPlan if there is no plan."""
        if self.level(self.start) is None:
            raise NoPlan()

    def level(self, worlds):
        """The least depth of a plan for these worlds, or None if there is no plan."""
        return self._levels[tuple(worlds)]

    def common(self, text, worlds):
        """A list of one answer that can be given to the text in all these worlds, or of none."""
        stocks = [self._outs[text][world] for world in worlds]
        if not any([bool(stock) for stock in stocks]):
            return [None]
        shared = stocks[0]
        for stock in stocks[1:]:
            shared = shared & stock
        return [shared.first()] if shared else []

    def least_need(self, worlds):
        """The least depth of a plan for these worlds, if that for fewer of them is known; or None."""
        if len(worlds) == 1:
            return 0
        needs = [self.need(worlds, text) for text in self._outs]
        return min([need for need in needs if need is not None], default=None)

    def need(self, worlds, text):
        """The depth of the best plan for these worlds that begins with the text, or None if there is none."""
        # More worlds never need fewer questions, so it is enough to look at all worlds with an answer in common.
        if worlds in self._alike[text]:
            return None
        levels = [self.level(alike) for alike in self._alike[text] if is_within(alike, worlds)]
        return None if None in levels else 1 + max([0, *levels])

    def best_text(self, worlds):
        """Of the texts with which a plan of the least depth begins, one with the fewest answers; None for one world."""
        if len(worlds) == 1:
            return None
        best = [text for text in self._outs if self.need(worlds, text) == self.level(worlds)]
        return min([(self.many_outs(worlds, text), at, text) for at, text in enumerate(best)])[2]

    def all_outs(self, worlds, text):
        """The stock of all texts that can be answered in at least one of the worlds, and its greatest length."""
        stock = self._outs[text][worlds[0]]
        for world in worlds[1:]:
            stock = stock | self._outs[text][world]
        return stock, stock.extent()[1] if stock else -1

    def many_outs(self, worlds, text):
        """The number of the texts that can be answered in at least one of the worlds."""
        stock, longest = self.all_outs(worlds, text)
        return stock.how_many(longest)

    def answers(self, worlds, text):
        """Pairs (answer, worlds in which it can be given): all texts in order, and then None."""
        if text is None:
            return []
        outs = self._outs[text]
        stock, longest = self.all_outs(worlds, text)
        found = [(out, [world for world in worlds if out in outs[world]]) for out in stock.texts(longest)]
        silent = [world for world in worlds if not outs[world]]
        return found + [(None, silent)] if silent else found

    def reply(self, worlds, budget, text):
        """An answer after which as many questions as the budget do not do, and worlds in which it can be given."""
        for alike in self._alike[text]:
            level = self.level(alike)
            if is_within(alike, worlds) and (level is None or (budget is not None and level >= budget)):
                return self.common(text, alike)[0], alike
        return None


def is_within(some, worlds):
    """Whether all of some worlds are among the worlds."""
    return all([world in worlds for world in some])


def outs_by_world(ledger, row, text):
    """For each world that is left, the stock of the texts that the row says for the text."""
    outs = {}
    for machine, worlds in ledger.spoken(row, text):
        stock = machine.image(Stock.every(machine.alphabet))
        for world in worlds:
            outs[world] = stock
    return outs
