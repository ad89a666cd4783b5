"""Tables of letter machines: arcs and goods, as a machine keeps them.

Operators use these functions, so each of them changes only lists and dicts that it made itself, by plain names.
"""

from talepost.nets import knots, merged


def tidy(arcs, goods):
    """Smaller arcs and goods that say the same."""
    net, ends = merged([[((read, write), to) for read, write, to in row] for row in arcs], goods)
    tidied = [[(label[0], label[1], to) for label, to in row if label != ("", "") or to != place]
              for place, row in enumerate(net)]
    return tidied, ends


def product_table(first, second):
    """Arcs and goods of two machines behind each other."""
    second_steps = [by_read(leaving) for leaving in second.arcs]
    silent = [must_go_alone(leaving, first.goods[p], 1) for p, leaving in enumerate(first.arcs)]
    deaf = [must_go_alone(leaving, second.goods[q], 0) for q, leaving in enumerate(second.arcs)]
    pairs = [(0, 0)]
    number = {(0, 0): 0}
    arcs = []
    while len(arcs) < len(pairs):
        p, q = pairs[len(arcs)]
        # Arcs that one machine follows alone can change places with those of the other, so one order is enough.
        if deaf[q]:
            steps = product_arcs([], p, q, second_steps[q])
        else:
            steps = product_arcs(first.arcs[p], p, q, {} if silent[p] else second_steps[q])
        row = []
        for read, write, to in steps:
            if to not in number:
                number[to] = len(pairs)
                pairs.append(to)
            row.append((read, write, number[to]))
        arcs.append(row)
    return tidy(arcs, [first.goods[p] and second.goods[q] for p, q in pairs])


def must_go_alone(row, good, part):
    """Whether a place is only left by arcs of which this part (0: read, 1: write) is empty."""
    return not good and all([arc[part] == "" for arc in row])


def by_read(row):
    """For each sign that the arcs of a place read, and for the empty string, the list of (write, next)."""
    steps = {}
    for read, write, to in row:
        steps[read] = steps.get(read, []) + [(write, to)]
    return steps


def product_arcs(arcs, p, q, steps):
    """The arcs of a pair of places: the arcs of p, and the steps of q as `by_read` orders them."""
    row = [("", write, (p, to)) for write, to in steps.get("", [])]
    for read, write, to in arcs:
        if write == "":
            row.append((read, "", (to, q)))
        else:
            row.extend([(read, out, (to, end)) for out, end in steps.get(write, [])])
    return row


def union_table(machines):
    """Arcs and goods of a machine that says what at least one machine of a list says."""
    start = []
    arcs = []
    many = 1
    for machine in machines:
        start.extend(shifted(machine.arcs[0], many))
        arcs.extend([shifted(row, many) for row in machine.arcs])
        many = many + len(machine.arcs)
    goods = [good for machine in machines for good in machine.goods]
    return tidy([start] + arcs, [any([machine.goods[0] for machine in machines])] + goods)


def shifted(row, many):
    """The arcs with places that are greater by so many."""
    return [(read, write, to + many) for read, write, to in row]


def inverse_arcs(arcs):
    """The arcs with reading and writing exchanged."""
    return [[(write, read, to) for read, write, to in row] for row in arcs]


def pairs_table(pairs):
    """Arcs and goods of a machine that says exactly the pairs of a list: a tree of their beginnings."""
    arcs = [[]]
    goods = [False]
    number = {}
    for text, out in pairs:
        place = 0
        for at in range(max(len(text), len(out))):
            step = (place, text[at:at + 1], out[at:at + 1])
            if step not in number:
                number[step] = len(arcs)
                arcs[place].append((step[1], step[2], len(arcs)))
                arcs.append([])
                goods.append(False)
            place = number[step]
        goods[place] = True
    return tidy(arcs, goods)


def spelled_table(rows, ends):
    """Arcs and goods of a table that writes several signs in one step, and a text at the end of a walk."""
    finish = len(rows)
    arcs = [[] for _ in range(finish + 1)]
    goods = [end == "" for end in ends] + [True]
    for place, row in enumerate(rows):
        steps = list(row)
        if ends[place]:
            steps.append(("", ends[place], finish))
        for read, written, to in steps:
            here = place
            for at in range(1, len(written)):
                arcs[here].append((read if at == 1 else "", written[at - 1], len(arcs)))
                here = len(arcs)
                arcs.append([])
                goods.append(False)
            arcs[here].append((read if here == place else "", written[-1:], to))
    return tidy(arcs, goods)


def reading_net(machine):
    """A net that has the texts for which the machine says something."""
    return [[(read, to) for read, _, to in row] for row in machine.arcs]


def writing_net(machine):
    """A net that has the texts that the machine says."""
    return [[(write, to) for _, write, to in row] for row in machine.arcs]


def is_endless(machine):
    """Whether a tidy machine says infinitely many texts for some text: it can write and come back, reading nothing."""
    idle = [[(write, to) for read, write, to in row if read == ""] for row in machine.arcs]
    knot = knots(idle)
    return any([write != "" and knot[place] == knot[to] for place, row in enumerate(idle) for write, to in row])
