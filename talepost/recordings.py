"""Recordings: short programs of editor keys that move forward through a text (points 56 to 58 and 63)."""

from talepost.errors import TooMany
from talepost.letters import check_alphabets
from talepost.machines import Machine
from talepost.notations import DONE, FAILED, check_notation, notation_steps
from talepost.situations import play_table
from talepost.stocks import Stock


class Recording:
    """Keys, repeats and choices. `steps` has a row (key, then, otherwise) for each key."""

    MOST_KEYS = 24
    MOST_DEPTH = 4

    def __init__(self, alphabet, notation):
        check_notation(alphabet, notation, Recording.MOST_DEPTH)
        steps = notation_steps(notation)
        if len(steps) > Recording.MOST_KEYS:
            raise TooMany(Recording.MOST_KEYS)
        self.alphabet = alphabet
        self.steps = steps
        self._notation = notation

    def __len__(self):
        return len(self.steps)

    def __str__(self):
        return str(self._notation)

    def __eq__(self, other):
        return isinstance(other, Recording) and self.alphabet == other.alphabet and str(self) == str(other)

    def __add__(self, other):
        check_alphabets([self, other])
        return Recording(self.alphabet, str(self) + str(other))

    def all_keys(self):
        """The keys in order."""
        return [key for key, _, _ in self.steps]

    def machine(self):
        """The machine that says what each text is carried to."""
        rows, ends, outcomes = play_table(self.alphabet, self.steps)
        done = Machine.spelled(self.alphabet, rows, [end if outcomes[place] == DONE else None
                                                     for place, end in enumerate(ends)])
        failed = Stock(self.alphabet, [[to for _, _, to in row] for row in rows],
                       [outcome == FAILED for outcome in outcomes])
        return done | Machine.identity(self.alphabet).on(failed)
