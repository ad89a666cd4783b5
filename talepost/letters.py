"""Alphabets and their texts, which are strings of signs (points 3 to 6)."""

from talepost.errors import BadAlphabet, BadSet, BadText, Mixed

SMALL_LETTERS = "abcdefghijklmnopqrstuvwxyz"


class Alphabet:
    """One to four letters, some of them vowels, and the joint."""

    JOINT = "-"
    MOST = 4

    def __init__(self, letters, vowels=""):
        if not 1 <= len(letters) <= Alphabet.MOST or not differ_within(letters, SMALL_LETTERS):
            raise BadAlphabet("letters")
        if not differ_within(vowels, letters):
            raise BadAlphabet("vowels")
        self.letters = "".join(sorted(letters))
        self.vowels = "".join(sorted(vowels))
        self.consonants = "".join([letter for letter in self.letters if letter not in vowels])
        self.signs = Alphabet.JOINT + self.letters

    def __eq__(self, other):
        return isinstance(other, Alphabet) and self.letters == other.letters and self.vowels == other.vowels

    def signs_of(self, name):
        """The signs of the set that has this name, in ascending order."""
        named = {"all": self.signs, "letters": self.letters, "vowels": self.vowels,
                 "consonants": self.consonants, "joints": Alphabet.JOINT}
        if name in named:
            return named[name]
        listed = name[1:-1]
        if listed == "" or name != f"[{listed}]" or not self.are_ascending(listed):
            raise BadSet(name)
        return listed

    def are_ascending(self, text):
        """Whether the string consists of different signs in ascending order."""
        return differ_within(text, self.signs) and list(text) == sorted(text)

    def is_sign(self, text):
        """Whether the string is one sign."""
        return len(text) == 1 and text in self.signs

    def is_text(self, text):
        """Whether the string is a text."""
        return all([sign in self.signs for sign in text])

    def check(self, text):
        """Raise BadText unless the string is a text."""
        if not self.is_text(text):
            raise BadText(text)


def differ_within(text, allowed):
    """Whether all characters of a string are different ones of the allowed characters."""
    return len(set(text)) == len(text) and all([letter in allowed for letter in text])


def check_alphabets(things):
    """Raise Mixed unless the objects of a list have equal alphabets."""
    check_shared(things[0].alphabet, things)


def check_shared(alphabet, things):
    """Raise Mixed unless each object of a list has this alphabet."""
    for thing in things:
        if thing.alphabet != alphabet:
            raise Mixed()


def shortlex(texts):
    """The different strings of a list: shorter ones first, then in alphabetical order."""
    return [text for _, text in sorted({(len(word), word) for word in texts})]


def kind_after(text):
    """The kind that the long text before a place gives to this place."""
    if text == "":
        return "start"
    return "joint" if text[-1] == Alphabet.JOINT else "letter"
