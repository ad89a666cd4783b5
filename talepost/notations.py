"""The notation of recordings: keys and groups, and where each key leads (points 56 to 58).

The numbers of the keys begin at 0. Where no key follows, there is the number of an outcome: its index among
the outcomes, counted from their end.
"""

from talepost.errors import BadRecording
from talepost.pages import PLAIN_KEYS, SIGN_KEYS

OPENING = "(["
CLOSING = ")|]"

OUTCOMES = ("endless", "failed", "done")
DONE = -1
FAILED = -2
ENDLESS = -3


def check_notation(alphabet, notation, most_open):
    """Raise BadRecording for the first character that cannot stand in its place, with at most so many open groups."""
    # The open groups: a repeat as its bracket, a choice as its bracket or, behind its bar, as this bar.
    groups = ""
    opened = waits = False
    for place, sign in enumerate(notation):
        inner = groups[-1:]
        if waits:
            fits = sign in alphabet.signs
        elif sign in OPENING:
            fits = len(groups) < most_open
            groups = groups + sign
        elif sign == ")":
            fits = inner == "(" and not opened
            groups = groups[:-1]
        elif sign == "|":
            fits = inner == "[" and not opened
            groups = groups[:-1] + "|"
        elif sign == "]":
            fits = inner == "|"
            groups = groups[:-1]
        else:
            fits = sign in PLAIN_KEYS or sign in SIGN_KEYS
        if not fits:
            raise BadRecording(place)
        opened = sign in OPENING
        waits = sign in SIGN_KEYS
    if waits or groups != "":
        raise BadRecording(len(notation))


def split_notation(notation):
    """The keys, brackets and bars of a notation, in order."""
    parts = []
    at = 0
    while at < len(notation):
        length = 2 if notation[at] in SIGN_KEYS else 1
        parts.append(notation[at:at + length])
        at = at + length
    return parts


def read_sequence(parts, at):
    """The sequence that begins at this part, and the index of the part behind it.

    It is a list of keys, of repeats (A,) and of choices (A, B), where A and B are sequences.
    """
    sequence = []
    while at < len(parts) and parts[at] not in CLOSING:
        if parts[at] == "(":
            inner, at = read_sequence(parts, at + 1)
            sequence.append((inner,))
        elif parts[at] == "[":
            inner, bar = read_sequence(parts, at + 1)
            other, at = read_sequence(parts, bar + 1)
            sequence.append((inner, other))
        else:
            sequence.append(parts[at])
        at = at + 1
    return sequence, at


def many_keys(sequence):
    """The number of the keys of a sequence, those of its groups included."""
    return sum([1 if isinstance(item, str) else sum([many_keys(part) for part in item]) for item in sequence])


def key_steps(sequence, first, then, otherwise):
    """Rows (key, then, otherwise) for the keys of a sequence whose first key has the number `first`.

    They tell where each key leads if it works, and if it fails; the last two numbers say it of the whole sequence.
    """
    steps = []
    for at, item in enumerate(sequence):
        start = first + len(steps)
        # Each item begins with a key, because no A is empty.
        after = then if at + 1 == len(sequence) else start + many_keys([item])
        if isinstance(item, str):
            steps.append((item, after, otherwise))
        elif len(item) == 1:
            steps.extend(key_steps(item[0], start, start, after))
        else:
            bar = start + many_keys(item[0])
            steps.extend(key_steps(item[0], start, after, bar if item[1] else after))
            steps.extend(key_steps(item[1], bar, after, otherwise))
    return steps


def notation_steps(notation):
    """The steps of the recording that has this notation, as `key_steps` tells them."""
    sequence, _ = read_sequence(split_notation(notation), 0)
    return key_steps(sequence, 0, DONE, FAILED)
