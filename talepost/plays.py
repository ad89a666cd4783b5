"""Plays: the keys of a recording are pressed on a page (points 61 to 64)."""

from talepost.errors import BadCount, UnknownOutcome
from talepost.letters import Alphabet
from talepost.notations import DONE, ENDLESS, OUTCOMES
from talepost.pages import Page
from talepost.situations import play_table
from talepost.stocks import Stock

MOST_TRACED = 200


class Result:
    """How a play ended, and what it left."""

    def __init__(self, alphabet, outcome, text, caret, kept, presses):
        self.alphabet = alphabet
        self.outcome = outcome
        self.text = text
        self.caret = caret
        self.kept = kept
        self.presses = presses


def play(recording, text):
    """The Result of playing the recording on the text."""
    page = Page(recording.alphabet, text)
    number = 0 if recording.steps else DONE
    presses = 0
    left = len(text)
    seen = {}
    while number >= 0:
        if len(page.text) - page.caret < left:
            left = len(page.text) - page.caret
            seen = {}
        situation = (number, mark_at_opening(page), page.held, page.kept)
        # The signs ahead are the same as when the play was in this situation before, so it will come here again.
        if situation in seen:
            return Result(recording.alphabet, OUTCOMES[ENDLESS], None, None, None, None)
        seen[situation] = True
        key, then, otherwise = recording.steps[number]
        number = then if page.press(key) else otherwise
        presses = presses + 1
    return Result(recording.alphabet, OUTCOMES[number], page.text, page.caret, page.kept, presses)


def mark_at_opening(page):
    """Whether the mark, or the caret if there is no mark, is at index 0 or directly after a joint."""
    place = page.caret if page.mark is None else page.mark
    return place == 0 or page.text[place - 1] == Alphabet.JOINT


def trace(recording, text, *, most=60):
    """A tuple (number, worked, text, caret) for each press of the play, at most so many."""
    page = Page(recording.alphabet, text)
    if not 0 <= most <= MOST_TRACED:
        raise BadCount(most)
    number = 0 if recording.steps else DONE
    for _ in range(most):
        if number < 0:
            return
        key, then, otherwise = recording.steps[number]
        worked = page.press(key)
        yield (number, worked, page.text, page.caret)
        number = then if worked else otherwise


def carry(recording, text):
    """The text that the text is carried to, or None."""
    result = play(recording, text)
    return text if result.outcome == "failed" else result.text


def ending(recording, outcome):
    """The stock of all texts whose play has the outcome."""
    if outcome not in OUTCOMES:
        raise UnknownOutcome(outcome)
    rows, _, outcomes = play_table(recording.alphabet, recording.steps)
    return Stock(recording.alphabet, [[to for _, _, to in row] for row in rows],
                 [OUTCOMES[number] == outcome for number in outcomes])
