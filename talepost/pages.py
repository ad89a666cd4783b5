"""Pages: a text with a caret, on which keys are pressed (points 56, 59 and 60)."""

from talepost.errors import BadKey

HOLD = 2
PLAIN_KEYS = (">", "x", "w", "^", "m", "k", "c", "p")
SIGN_KEYS = ("'", "=", "/")


class Page:
    """A text, a caret, a mark or None, and the signs that are kept."""

    def __init__(self, alphabet, text=""):
        alphabet.check(text)
        self.alphabet = alphabet
        self.text = text
        self.caret = 0
        self.mark = None
        self.kept = ""

    @property
    def held(self):
        """The signs from the mark to the caret, or None if there is no mark."""
        return None if self.mark is None else self.text[self.mark:self.caret]

    def press(self, key):
        """Press one key. Tells whether it works."""
        if not is_key(self.alphabet, key):
            raise BadKey(key)
        works = self.will_work(key)
        # A seek is the only key that changes something if it fails.
        if works or key[0] == "/":
            self.carry_out(key)
        return works

    def will_work(self, key):
        """Whether the key works as things stand."""
        ahead = self.text[self.caret:]
        if key in (">", "x"):
            return ahead != ""
        if key[0] == "=":
            return ahead.startswith(key[1])
        if key[0] == "/":
            return key[1] in ahead
        if key == "^":
            return self.caret == 0 or self.text[self.caret - 1] == self.alphabet.JOINT
        if key in ("k", "c"):
            return self.mark is not None
        return key != "p" or self.kept != ""

    def carry_out(self, key):
        """Change what the key changes."""
        if key == ">":
            self.go_on()
        elif key == "x":
            self.text = self.text[:self.caret] + self.text[self.caret + 1:]
        elif key[0] == "'":
            self.put_in(key[1])
        elif key[0] == "/":
            self.pass_until(key[1])
        elif key == "w":
            self.pass_until(self.alphabet.JOINT)
        elif key == "m":
            self.mark = self.caret
        elif key == "p":
            self.put_in(self.kept)
        elif key in ("k", "c"):
            self.kept = self.held
            if key == "c":
                self.text = self.text[:self.mark] + self.text[self.caret:]
                self.caret = self.mark

    def go_on(self):
        """Move the caret behind the next sign. The mark is dropped if it is too far behind then."""
        self.caret = self.caret + 1
        if self.mark is not None and self.caret - self.mark > HOLD:
            self.mark = None

    def put_in(self, signs):
        """Insert the signs before the caret, one after the other."""
        for sign in signs:
            self.text = self.text[:self.caret] + sign + self.text[self.caret:]
            self.go_on()

    def pass_until(self, sign):
        """Pass signs until this one is ahead, or to the end."""
        while self.caret < len(self.text) and self.text[self.caret] != sign:
            self.go_on()


def is_key(alphabet, key):
    """Whether the string is exactly one key."""
    return key in PLAIN_KEYS or (len(key) == 2 and key[0] in SIGN_KEYS and key[1] in alphabet.signs)
