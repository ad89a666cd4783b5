"""Shapes, which describe sets of texts (points 10 and 11)."""

from talepost.errors import BadShape

MOST_ATOMS = 8
MOST_NESTED = 3
REPEATS = "?*+"


def signs_of_atom(alphabet, atom):
    """The signs that an atom stands for, or None if the character is no atom."""
    sets = {"C": alphabet.consonants, "V": alphabet.vowels, "L": alphabet.letters,
            "J": alphabet.JOINT, "S": alphabet.signs}
    if atom in sets:
        return sets[atom]
    return atom if atom in alphabet.signs else None


def check_shape(alphabet, shape):
    """Raise BadShape for the first character that cannot stand in its place."""
    depth = atoms = 0
    # What stands before the character: the beginning of a branch, an atom, or an item with its repeat sign.
    before = "branch"
    for place, sign in enumerate(shape):
        if sign in REPEATS:
            fits = before == "atom"
            before = "item"
        elif sign == "|":
            fits = before != "branch"
            before = "branch"
        elif sign == "(":
            fits = depth < MOST_NESTED
            depth = depth + 1
            before = "branch"
        elif sign == ")":
            fits = before != "branch" and depth > 0
            depth = depth - 1
            before = "atom"
        else:
            fits = atoms < MOST_ATOMS and signs_of_atom(alphabet, sign) is not None
            atoms = atoms + 1
            before = "atom"
        if not fits:
            raise BadShape(place)
    if depth > 0 or before == "branch":
        raise BadShape(len(shape))


def shape_net(alphabet, shape):
    """A net (its steps and which places are good) that has the texts that the shape describes."""
    check_shape(alphabet, shape)
    net = [[], []]
    around = []
    entry, leave, here = 0, 1, 0
    item = (0, 0)
    for sign in shape:
        if sign == "|":
            net[here].append(("", leave))
            here = entry
        elif sign == "(":
            around.append((entry, leave))
            entry, leave = len(net), len(net) + 1
            net.extend([[], []])
            net[here].append(("", entry))
            here = entry
        elif sign == ")":
            net[here].append(("", leave))
            item, here = (entry, leave), leave
            entry, leave = around.pop()
        elif sign in REPEATS:
            if sign != "+":
                net[item[0]].append(("", item[1]))
            if sign != "?":
                net[item[1]].append(("", item[0]))
        else:
            item = (len(net), len(net) + 1)
            net[here].append(("", item[0]))
            net.extend([[(each, item[1]) for each in signs_of_atom(alphabet, sign)], []])
            here = item[1]
    net[here].append(("", leave))
    return net, [place == 1 for place in range(len(net))]
