"""Leads: whether two machines say one and the same text, whatever both are told (points 19 to 21)."""

from talepost.letters import check_alphabets
from talepost.machines import first_outs
from talepost.nets import earliest, leading
from talepost.wiring import by_read, must_go_alone, reading_net, tidy

# A search that meets more leads than this is put off: machines of this size mostly part on one of the first
# texts, if at all, and these texts can be tried one by one without looking at all pairs of places.
HASTE = 3000
EARLY = 12
SHORT = 20


def parting_text(first, second):
    """The first text for which the machines say two different texts, or None."""
    check_alphabets([first, second])
    pairs = Pairs(tidy(first.arcs, first.goods), tidy(second.arcs, second.goods), True)
    text, _, ended = search(pairs, HASTE)
    if ended:
        return text
    for early in earliest(reading_net(first), first.goods, EARLY):
        if len(early) <= SHORT and part_on(first, second, early):
            return early
    pairs.meet_all()
    return search(pairs, None)[0]


def part_on(first, second, text):
    """Whether the machines say two different texts for this text."""
    outs, others = first_outs(first, text, 2), first_outs(second, text, 2)
    return len(outs) > 0 and len(others) > 0 and len(set(outs + others)) > 1


def lead_rows(first, second):
    """The lead table of two machines that do not part, or None if they do."""
    check_alphabets([first, second])
    pairs = Pairs((first.arcs, first.goods), (second.arcs, second.goods), False)
    pairs.meet_all()
    text, leads, _ = search(pairs, None)
    if text is not None:
        return None
    gaps = [leads[at][0] if at in leads else (None, None) for at in range(len(pairs.met))]
    return sorted([(p, q, gaps[at][0], gaps[at][1]) for at, (p, q) in enumerate(pairs.met)])


def leads_hold(first, second, rows):
    """Whether the rows are a lead table of the machines that holds."""
    check_alphabets([first, second])
    table = {}
    for p, q, left, right in rows:
        table[(p, q)] = (left, right)
    if len(table) != len(rows) or (0, 0) not in table or table[(0, 0)] not in [(None, None), ("", "")]:
        return False
    for p, q, left, right in rows:
        if not (0 <= p < len(first) and 0 <= q < len(second) and is_row(left, right)):
            return False
        good = first.goods[p] and second.goods[q]
        if good and (left, right) != ("", ""):
            return False
        for (_, one, other), to in pair_moves(first.arcs[p], p, q, by_read(second.arcs[q])):
            expected = (None, None) if left is None else lead(left + one, right + other)
            if to not in table or table[to] not in [(None, None), expected]:
                return False
    return True


def is_row(left, right):
    """Whether both are None, or both are strings of which at least one is empty."""
    if left is None or right is None:
        return left is None and right is None
    return left == "" or right == ""


def lead(left, right):
    """What remains of two strings after their longest common beginning."""
    at = 0
    while at < len(left) and at < len(right) and left[at] == right[at]:
        at = at + 1
    return left[at:], right[at:]


def pair_moves(arcs, p, q, steps):
    """The moves ((sign, left, right), pair) of a pair; `steps` are the arcs of q, by what they read."""
    moves = [(("", "", write), (p, to)) for write, to in steps.get("", [])]
    for read, write, to in arcs:
        if read == "":
            moves.append((("", write, ""), (to, q)))
        else:
            moves.extend([((read, write, other), (to, end)) for other, end in steps.get(read, [])])
    return moves


class Pairs:
    """The pairs of places of two machines that moves reach from (0, 0), numbered as they are met.

    If one order is enough, a place that is left without reading is left first: moves that read nothing can
    change places with each other.
    """

    def __init__(self, table, other, one_order):
        self._arcs, self._goods = table
        self._steps = [by_read(row) for row in other[0]]
        self._other_goods = other[1]
        self._alone = [one_order and must_go_alone(self._arcs[p], self._goods[p], 0) for p in range(len(table[0]))]
        self._other_alone = [one_order and must_go_alone(other[0][q], other[1][q], 0) for q in range(len(other[0]))]
        self._number = {(0, 0): 0}
        self._moves = {}
        self._useful = None
        self.met = [(0, 0)]

    def is_good(self, at):
        """Whether both places of the pair are good."""
        p, q = self.met[at]
        return self._goods[p] and self._other_goods[q]

    def is_useful(self, at):
        """Whether moves may lead from the pair to a good one; known for sure when all pairs are met."""
        return self._useful is None or self._useful[at]

    def moves(self, at):
        """The moves ((sign, left, right), number) of the pair."""
        if at not in self._moves:
            p, q = self.met[at]
            if self._other_alone[q]:
                row = pair_moves([], p, q, self._steps[q])
            else:
                row = pair_moves(self._arcs[p], p, q, {} if self._alone[p] else self._steps[q])
            for _, to in row:
                if to not in self._number:
                    self._number[to] = len(self.met)
                    self.met.append(to)
            self._moves[at] = [(label, self._number[to]) for label, to in row]
        return self._moves[at]

    def meet_all(self):
        """Meet all pairs, and find out which of them lead to a good one."""
        net = []
        while len(net) < len(self.met):
            net.append(self.moves(len(net)))
        self._useful = leading(net, [self.is_good(at) for at in range(len(net))])


def search(pairs, most):
    """The first parting text or None, the leads that were met for each pair, and whether the search ended.

    It is given up, unless `most` is None, when so many leads are met. Two leads of a pair are enough: if two
    different ones are met with one continuation, at most one of them comes to nothing, so a third lead, which
    is met later, cannot part on an earlier text.
    """
    leads = {}
    many = 0
    layer = [("", [(0, ("", ""))])] if pairs.is_useful(0) else []
    while layer:
        longer = []
        for text, starts in layer:
            steps = {}
            queue = list(starts)
            done = 0
            while done < len(queue):
                at, gap = queue[done]
                done = done + 1
                known = leads.get(at, [])
                if gap in known or len(known) == 2:
                    continue
                leads[at] = known + [gap]
                many = many + 1
                if pairs.is_good(at) and gap != ("", ""):
                    return text, leads, True
                if many == most:
                    return None, leads, False
                for (sign, left, right), to in pairs.moves(at):
                    if pairs.is_useful(to) and sign == "":
                        queue.append((to, after_move(gap, left, right)))
                    elif pairs.is_useful(to):
                        if sign not in steps:
                            steps[sign] = []
                        steps[sign].append((to, after_move(gap, left, right)))
            for sign in sorted(list(steps)):
                longer.append((text + sign, steps[sign]))
        layer = longer
    return None, leads, True


def after_move(gap, left, right):
    """The lead behind a move; None stands for texts that differ already, however they go on."""
    if gap is None:
        return None
    left_end, right_end = lead(gap[0] + left, gap[1] + right)
    return (left_end, right_end) if left_end == "" or right_end == "" else None
