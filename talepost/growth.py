"""Growth: how much longer than a text what a machine says for it can be (points 27 and 28)."""

from math import gcd

from talepost.machines import Machine, first_heard, first_outs
from talepost.nets import knots
from talepost.wiring import is_endless, tidy


def growth(machine):
    """The least bound (out, per, slack, text, said) on what the machine says; None if there is none."""
    short = shorter(machine)
    if not any(short.goods):
        return (0, 1, 0, None, None)
    if is_endless(short):
        return None
    out, per, _ = steepest(short)
    slack, tight = tightest(short, out, per)
    text = first_heard(tight)
    return (out, per, slack, text, first_outs(tight, text, 1)[0])


def pump(machine):
    """Six texts (a, b, c, x, y, z) with a loop that grows as much as the bound allows; None if none grows."""
    short = shorter(machine)
    if not any(short.goods) or is_endless(short):
        return None
    out, _, ring = steepest(short)
    if out == 0:
        return None
    arcs = machine_steps(short)
    at = arcs[ring[0]][0]
    goods = [place for place, good in enumerate(short.goods) if good]
    parts = [path(arcs, 0, [at]), ring, path(arcs, at, goods)]
    heard = ["".join([arcs[step][2] for step in part]) for part in parts]
    said = ["".join([arcs[step][3] for step in part]) for part in parts]
    return (*heard, *said)


def shorter(machine):
    """A machine that says the same, with no place that is on no walk."""
    arcs, goods = tidy(machine.arcs, machine.goods)
    return Machine(machine.alphabet, arcs, goods)


def machine_steps(machine):
    """All arcs of a machine in one list, as rows (place, next, read, write)."""
    return [(place, to, read, write) for place, row in enumerate(machine.arcs) for read, write, to in row]


def weight(arc, out, per):
    """How much more the arc writes than a growth of out / per allows, times per."""
    return per * len(arc[3]) - out * len(arc[2])


def steepest(machine):
    """The growth (out, per), and a ring of arcs (their numbers) that has it, or None if nothing grows.

    Each ring that is found grows more than the last one; when none grows more, the last one has the growth.
    """
    arcs = machine_steps(machine)
    knot = knots([[(None, to) for _, _, to in row] for row in machine.arcs])
    inner = [at for at, arc in enumerate(arcs) if knot[arc[0]] == knot[arc[1]]]
    out, per, best = 0, 1, None
    ring = gaining_ring(len(machine), arcs, inner, out, per)
    while ring is not None:
        written = sum([len(arcs[at][3]) for at in ring])
        heard = sum([len(arcs[at][2]) for at in ring])
        common = gcd(written, heard)
        out, per, best = written // common, heard // common, ring
        ring = gaining_ring(len(machine), arcs, inner, out, per)
    return out, per, best


def gaining_ring(many, arcs, inner, out, per):
    """The numbers of the arcs of a ring with more weight than zero, in order, or None if there is none."""
    gain = [0 for _ in range(many)]
    came = [None for _ in range(many)]
    changed = True
    while changed:
        changed = False
        for at in inner:
            place, to, _, _ = arcs[at]
            value = gain[place] + weight(arcs[at], out, per)
            if value > gain[to]:
                gain[to] = value
                came[to] = at
                changed = True
        ring = ring_of(arcs, came)
        if ring is not None:
            return ring
    return None


def ring_of(arcs, came):
    """A ring among the arcs by which the places were reached last, in order, or None."""
    seen = [-1 for _ in came]
    for start in range(len(came)):
        place = start
        while seen[place] < 0 and came[place] is not None:
            seen[place] = start
            place = arcs[came[place]][0]
        if seen[place] == start and came[place] is not None:
            ring = [came[place]]
            while arcs[ring[-1]][0] != place:
                ring.append(came[arcs[ring[-1]][0]])
            return ring[::-1]
    return None


def tightest(machine, out, per):
    """The slack, and the machine that keeps only the walks that reach it."""
    steps = [(arc[0], arc[1], weight(arc, out, per)) for arc in machine_steps(machine)]
    ahead = greatest_gains(steps, [place == 0 for place in range(len(machine))])
    behind = greatest_gains([(to, place, more) for place, to, more in steps[::-1]], machine.goods)
    slack = behind[0]
    rows = [[(read, write, to) for read, write, to in row
             if ahead[place] + weight((place, to, read, write), out, per) + behind[to] == slack]
            for place, row in enumerate(machine.arcs)]
    goods = [good and ahead[place] == slack for place, good in enumerate(machine.goods)]
    return slack, Machine(machine.alphabet, rows, goods)


def greatest_gains(steps, starts):
    """For each place, the greatest weight of a way to it from one of the starts; no ring gains."""
    gain = [0 if start else None for start in starts]
    changed = True
    while changed:
        changed = False
        for place, to, more in steps:
            if gain[place] is not None and (gain[to] is None or gain[place] + more > gain[to]):
                gain[to] = gain[place] + more
                changed = True
    return gain


def path(arcs, start, targets):
    """The numbers of the arcs of a shortest way from the start to one of the targets, in order."""
    leaving = {}
    for number, arc in enumerate(arcs):
        leaving[arc[0]] = leaving.get(arc[0], []) + [number]
    ways = {start: []}
    order = [start]
    at = 0
    while order[at] not in targets:
        place = order[at]
        for number in leaving.get(place, []):
            to = arcs[number][1]
            if to not in ways:
                ways[to] = ways[place] + [number]
                order.append(to)
        at = at + 1
    return ways[order[at]]
