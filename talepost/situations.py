"""Situations of a play: all that its keys to come depend on, apart from the signs ahead (points 63 and 64).

A situation is a pair (number, hand): the number of the next key, or that of an outcome; and what the keys can
still see or change behind the caret. This is a triple (opening, held, kept): whether the mark, or the caret if
there is no mark, is at an opening; the signs from the mark to the caret, or None; and the kept signs. All signs
before them stay as they are, so they can be written for good.
"""

from talepost.letters import Alphabet
from talepost.notations import DONE, ENDLESS
from talepost.pages import HOLD

NEW_HAND = (True, None, "")


def passed_by(hand, signs):
    """What is written for good, and the hand, when these signs come to stand before the caret, one by one."""
    opening, held, kept = hand
    written = ""
    for sign in signs:
        if held is not None and len(held) < HOLD:
            held = held + sign
        else:
            written = written + (held or "") + sign
            opening, held = sign == Alphabet.JOINT, None
    return written, (opening, held, kept)


def at_opening(hand):
    """Whether the caret is at an opening."""
    opening, held, _ = hand
    return held[-1] == Alphabet.JOINT if held else opening


def press_ahead(key, hand, ahead):
    """Press a key with this sign ahead, or "" at the end: (works, whether the sign is gone, written, hand).

    A seek or a word that passes the sign goes on with the next one; for this, `works` is None.
    """
    if key in (">", "x"):
        written, after = passed_by(hand, ahead if key == ">" else "")
        return ahead != "", ahead != "", written, after
    if key[0] == "/" or key == "w":
        stops = ahead == key[1:] if key != "w" else ahead == Alphabet.JOINT
        if stops or ahead == "":
            return stops or key == "w", False, "", hand
        written, after = passed_by(hand, ahead)
        return None, True, written, after
    works, written, after = press_behind(key, hand)
    return (ahead == key[1] if key[0] == "=" else works), False, written, after


def press_behind(key, hand):
    """Press a key that leaves the signs ahead as they are: (works, written, hand)."""
    opening, held, kept = hand
    if key[0] == "'":
        written, after = passed_by(hand, key[1])
        return True, written, after
    if key == "^":
        return at_opening(hand), "", hand
    if key == "m":
        return True, held or "", (at_opening(hand), "", kept)
    if key == "p":
        written, after = passed_by(hand, kept)
        return kept != "", written, after
    if key in ("k", "c") and held is not None:
        return True, "", (opening, held if key == "k" else "", held)
    return False, "", hand


def played_on(steps, situation, ahead):
    """Play until the sign ahead, or "" at the end, is passed or deleted, or the recording ends.

    Returns what is written, the sign ahead included if nothing can change it any more, and the situation.
    """
    number, hand = situation
    written = ""
    gone = False
    seen = {}
    while number >= 0 and not gone:
        if (number, hand) in seen:
            return "", (ENDLESS, NEW_HAND)
        seen[(number, hand)] = True
        key, then, otherwise = steps[number]
        works, gone, signs, hand = press_ahead(key, hand, ahead)
        written = written + signs
        if works is not None:
            number = then if works else otherwise
    if number >= 0:
        return written, (number, hand)
    if number == DONE:
        written = written + (hand[1] or "") + ("" if gone else ahead)
    return written, (number, NEW_HAND)


def play_table(alphabet, steps):
    """The plays on all texts as a table that a machine can be spelled with: (rows, ends, outcomes).

    For each place there is a step for each sign, what is written at the end of the text, and the number of the
    outcome that the play has then. What is written counts only if this is that of a play that is done.
    """
    situations = [(0 if steps else DONE, NEW_HAND)]
    place_of = {situations[0]: 0}
    rows = []
    ends = []
    outcomes = []
    while len(rows) < len(situations):
        here = situations[len(rows)]
        row = []
        for sign in alphabet.signs:
            written, after = played_on(steps, here, sign)
            if after not in place_of:
                place_of[after] = len(situations)
                situations.append(after)
            row.append((sign, written, place_of[after]))
        rows.append(row)
        written, (number, _) = played_on(steps, here, "")
        ends.append(written)
        outcomes.append(number)
    return rows, ends, outcomes
