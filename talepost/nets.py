"""Nets: for each place a list of steps (label, next), and whether the place is good; place 0 is the start.

Operators use these functions, so each of them changes only lists and dicts that it made itself, by plain names.
"""


def leading(net, goods):
    """For each place, whether its steps lead to a good place."""
    before = backward(net)
    found = list(goods)
    queue = [place for place, good in enumerate(goods) if good]
    while queue:
        place = queue.pop()
        for earlier in before[place]:
            if not found[earlier]:
                found[earlier] = True
                queue.append(earlier)
    return found


def backward(net):
    """For each place, the places that have a step to it."""
    before = gathered(sorted([(to, place) for place, row in enumerate(net) for _, to in row]))
    return [before.get(place, []) for place in range(len(net))]


def gathered(rows):
    """For each key of a sorted list of rows (key, item), the list of its items."""
    lists = {}
    listed = []
    for at, (key, thing) in enumerate(rows):
        listed.append(thing)
        if at + 1 == len(rows) or rows[at + 1][0] != key:
            lists[key] = listed
            listed = []
    return lists


def trimmed(net, goods):
    """The net without the places that are on no walk, in the order in which a search meets the others."""
    useful = leading(net, goods)
    if not useful[0]:
        return [[]], [False]
    order = [0]
    number = {0: 0}
    at = 0
    while at < len(order):
        place = order[at]
        for _, to in net[place]:
            if useful[to] and to not in number:
                number[to] = len(order)
                order.append(to)
        at = at + 1
    rows = [[(label, number[to]) for label, to in net[kept] if useful[to]] for kept in order]
    return rows, [goods[kept] for kept in order]


def merged(net, goods):
    """The trimmed net with one place for all places that have the same continuations."""
    rows, ends = trimmed(net, goods)
    block = alike(rows, ends)
    first = {}
    for place, number in enumerate(block):
        if number not in first:
            first[number] = place
    order = {number: at for at, number in enumerate(list(first))}
    shorter = [without_twins([(label, order[block[to]]) for label, to in rows[first[number]]]) for number in first]
    return trimmed(shorter, [ends[first[number]] for number in first])


def without_twins(row):
    """The different items of a list, in the order in which they first stand there."""
    kept = {}
    for step in row:
        kept[step] = True
    return list(kept)


def alike(net, goods):
    """A number for each place, the same one for places with the same continuations, label by label."""
    before = backward(net)
    block = [0 if good else 1 for good in goods]
    # Places that have left a block may stay in its list; they have another number.
    members = [[at for at, good in enumerate(goods) if good], [at for at, good in enumerate(goods) if not good]]
    sizes = [len(listed) for listed in members]
    touched = list(range(len(net)))
    while touched:
        moved = []
        parts = parts_of(net, block, touched)
        for number in parts:
            # A largest part keeps the number: so no place moves more often than its block can be halved.
            staying, leaving = divided(parts[number], number, block, sizes[number], members[number])
            if staying is not None:
                members[number] = staying
            for part in leaving:
                for place in part:
                    block[place] = len(members)
                sizes[number] = sizes[number] - len(part)
                sizes.append(len(part))
                members.append(part)
                moved.extend(part)
        touched = sorted(set([earlier for place in moved for earlier in before[place]]))
    return block


def parts_of(net, block, touched):
    """For each block, the lists of its touched places that have the same steps to the same blocks."""
    number = {}
    marked = []
    for place in touched:
        steps = sorted(set([(label, block[to]) for label, to in net[place]]))
        mark = (block[place], tuple(steps))
        if mark not in number:
            number[mark] = len(number)
        marked.append((number[mark], place))
    same = gathered(sorted(marked))
    return gathered(sorted([(block[part[0]], part) for part in same.values()]))


def divided(parts, number, block, size, listed):
    """A largest part of a block, and the list of the others; None stands for the places that are in no part.

    The block has the number and the size. Its places, and others that have left it, are listed.
    """
    largest = max([(len(part), at) for at, part in enumerate(parts)])[1]
    rest = size - sum([len(part) for part in parts])
    if rest >= len(parts[largest]):
        return None, parts
    leaving = [part for at, part in enumerate(parts) if at != largest]
    if rest == 0:
        return parts[largest], leaving
    in_parts = {place: True for part in parts for place in part}
    return parts[largest], leaving + [[place for place in listed if block[place] == number and place not in in_parts]]


def closed(net, places):
    """The places to which steps with the empty label lead, the given ones included, in ascending order."""
    seen = {}
    for place in places:
        seen[place] = True
    queue = list(seen)
    while queue:
        here = queue.pop()
        for label, to in net[here]:
            if label == "" and to not in seen:
                seen[to] = True
                queue.append(to)
    return sorted(list(seen))


def onward(net, places):
    """For each sign, the places to which its steps lead from the given places."""
    steps = {}
    for place in places:
        for label, to in net[place]:
            if label != "":
                if label not in steps:
                    steps[label] = {}
                steps[label][to] = True
    return steps


def settled(signs, net, goods):
    """A table of a stock (rows and goods) that has the texts of the net: a search over sets of places."""
    rows_of_net, ends = merged(net, goods)
    sets = [tuple(closed(rows_of_net, [0]))]
    number = {sets[0]: 0}
    rows = []
    while len(rows) < len(sets):
        steps = onward(rows_of_net, sets[len(rows)])
        row = []
        for sign in signs:
            if sign in steps:
                reached = tuple(closed(rows_of_net, list(steps[sign])))
                if reached not in number:
                    number[reached] = len(sets)
                    sets.append(reached)
                row.append(number[reached])
            else:
                row.append(-1)
        rows.append(row)
    return rows, [any([ends[place] for place in places]) for places in sets]


def earliest(net, goods, most):
    """The first texts of the net in order, at most so many; for None all texts, if they are finitely many.

    Of all the texts that lead to one place, only the first ones can begin one of the first texts of the net.
    """
    rows, ends = trimmed(net, goods)
    visits = [0 for _ in rows]
    found = []
    layer = [("", [0])]
    while layer:
        longer = []
        for text, starts in layer:
            places = [place for place in closed(rows, starts) if most is None or visits[place] < most]
            for place in places:
                visits[place] = visits[place] + 1
            if any([ends[place] for place in places]):
                found.append(text)
                if len(found) == most:
                    return found
            steps = onward(rows, places)
            for sign in sorted(list(steps)):
                longer.append((text + sign, list(steps[sign])))
        layer = longer
    return found


def first_of_two(net, other, both, most=None):
    """The first text that both nets have or, if `both` is False, that exactly one of them has; or None.

    Each of the two is a pair (net, goods). The search over sets of places ends as soon as it meets the text.
    Unless `most` is None, no text with more signs is looked for.
    """
    rows, ends = merged(net[0], net[1])
    other_rows, other_ends = merged(other[0], other[1])
    layer = [("", tuple(closed(rows, [0])), tuple(closed(other_rows, [0])))]
    seen = {layer[0][1:]: True}
    while layer and (most is None or len(layer[0][0]) <= most):
        longer = []
        for text, places, others in layer:
            good = any([ends[place] for place in places])
            other_good = any([other_ends[place] for place in others])
            if (both and good and other_good) or (not both and good != other_good):
                return text
            steps, other_steps = onward(rows, places), onward(other_rows, others)
            for sign in sorted(set(list(steps) + list(other_steps))):
                ahead = (tuple(closed(rows, list(steps.get(sign, {})))),
                         tuple(closed(other_rows, list(other_steps.get(sign, {})))))
                if ahead not in seen and not (both and () in ahead):
                    seen[ahead] = True
                    longer.append((text + sign, ahead[0], ahead[1]))
        layer = longer
    return None


def knots(net):
    """A number for each place, the same one for places that lead to each other."""
    before = backward(net)
    knot = [-1 for _ in net]
    for place in finished(net)[::-1]:
        if knot[place] < 0:
            knot[place] = place
            queue = [place]
            while queue:
                here = queue.pop()
                for earlier in before[here]:
                    if knot[earlier] < 0:
                        knot[earlier] = place
                        queue.append(earlier)
    return knot


def finished(net):
    """All places in the order in which a search in depth leaves them for good."""
    seen = [False for _ in net]
    order = []
    for start in range(len(net)):
        stack = [] if seen[start] else [(start, 0)]
        seen[start] = True
        while stack:
            place, at = stack.pop()
            if at == len(net[place]):
                order.append(place)
            else:
                stack.append((place, at + 1))
                to = net[place][at][1]
                if not seen[to]:
                    seen[to] = True
                    stack.append((to, 0))
    return order
