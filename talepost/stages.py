"""Stages, which turn a text into another one (points 49 to 51)."""

from talepost.errors import BadSet, BadStage
from talepost.machines import Machine

MOST_AFTER = 3


class Stage:
    """The base class of the five kinds of stages."""

    def __init__(self, alphabet):
        self.alphabet = alphabet


class Drop(Stage):
    """Removes the signs of a set that have a greater number; with `each`, numbers begin anew after each joint."""

    def __init__(self, alphabet, name, *, after=0, each=False):
        super().__init__(alphabet)
        self.signs = signs_of_set(alphabet, name)
        if not isinstance(after, int) or isinstance(after, bool) or not 0 <= after <= MOST_AFTER:
            raise BadStage("after")
        self.name = name
        self.after = after
        self.each = each

    def __call__(self, text):
        self.alphabet.check(text)
        return "".join([sign for sign, drops in zip(text, marked(self, text)) if not drops])

    def __str__(self):
        return " ".join(drop_words(self, []))

    def machine(self):
        """The machine that says what the stage makes of each text."""
        many = self.after + 1
        rows = [[(sign, "" if is_dropped(self, sign, before) else sign, number_after(self, sign, before))
                 for sign in self.alphabet.signs] for before in range(many)]
        return Machine.spelled(self.alphabet, rows, ["" for _ in rows])


class LastDrop(Drop):
    """Removes the same signs, but not the last one; with `each`, also no sign that stands directly before a joint."""

    def __call__(self, text):
        self.alphabet.check(text)
        drops = marked(self, text)
        return "".join([sign for at, sign in enumerate(text)
                        if not drops[at] or at + 1 == len(text) or (self.each and text[at + 1] == self.alphabet.JOINT)])

    def __str__(self):
        return " ".join(drop_words(self, ["but", "last"]))

    def machine(self):
        """The machine that says what the stage makes of each text. It holds back a sign that may have to stay."""
        places = [(before, held) for before in range(self.after + 1) for held in ["", *self.signs]]
        number = {place: at for at, place in enumerate(places)}
        rows = []
        for before, held in places:
            row = []
            for sign in self.alphabet.signs:
                written = held if self.each and sign == self.alphabet.JOINT else ""
                if is_dropped(self, sign, before):
                    row.append((sign, written, number[(number_after(self, sign, before), sign)]))
                else:
                    row.append((sign, written + sign, number[(number_after(self, sign, before), "")]))
            rows.append(row)
        return Machine.spelled(self.alphabet, rows, [held for _, held in places])


class Write(Stage):
    """Replaces each sign of a set by one sign."""

    def __init__(self, alphabet, sign, name):
        super().__init__(alphabet)
        check_sign(alphabet, sign)
        self.signs = signs_of_set(alphabet, name)
        self.sign = sign
        self.name = name

    def __call__(self, text):
        self.alphabet.check(text)
        return "".join([self.sign if sign in self.signs else sign for sign in text])

    def __str__(self):
        return f"write {self.sign} for {self.name}"

    def machine(self):
        """The machine that says what the stage makes of each text."""
        row = [(sign, self.sign if sign in self.signs else sign, 0) for sign in self.alphabet.signs]
        return Machine(self.alphabet, [row], [True])


class Once(Stage):
    """Removes each sign of a set that is equal to the sign directly before it."""

    def __init__(self, alphabet, name):
        super().__init__(alphabet)
        self.signs = signs_of_set(alphabet, name)
        self.name = name

    def __call__(self, text):
        self.alphabet.check(text)
        return "".join([sign for at, sign in enumerate(text)
                        if at == 0 or sign != text[at - 1] or sign not in self.signs])

    def __str__(self):
        return f"once {self.name}"

    def machine(self):
        """The machine that says what the stage makes of each text. It remembers the sign before."""
        signs = self.alphabet.signs
        arcs = [[(sign, "" if sign == before and sign in self.signs else sign, at + 1) for at, sign in enumerate(signs)]
                for before in ["", *signs]]
        return Machine(self.alphabet, arcs, [True for _ in arcs])


class Add(Stage):
    """Appends a sign to the text."""

    def __init__(self, alphabet, sign):
        super().__init__(alphabet)
        check_sign(alphabet, sign)
        self.sign = sign

    def __call__(self, text):
        self.alphabet.check(text)
        return text + self.sign

    def __str__(self):
        return f"add {self.sign}"

    def machine(self):
        """The machine that says what the stage makes of each text."""
        arcs = [[(sign, sign, 0) for sign in self.alphabet.signs] + [("", self.sign, 1)], []]
        return Machine(self.alphabet, arcs, [False, True])


def check_sign(alphabet, sign):
    """Raise BadStage unless the string is a sign."""
    if not alphabet.is_sign(sign):
        raise BadStage("sign")


def signs_of_set(alphabet, name):
    """The signs of the set of this name. Raises BadStage if there is no such set."""
    try:
        return alphabet.signs_of(name)
    except BadSet:
        raise BadStage("set") from None


def number_after(stage, sign, before):
    """How many numbers are used behind the sign, before which so many are used; more than `after` count as `after`."""
    if stage.each and sign == stage.alphabet.JOINT:
        return 0
    return min(before + 1, stage.after)


def is_dropped(stage, sign, before):
    """Whether the sign belongs to the set and has a greater number, if so many numbers are used before it."""
    if stage.each and sign == stage.alphabet.JOINT:
        return False
    return sign in stage.signs and before >= stage.after


def marked(stage, text):
    """For each sign of the text, whether it belongs to the set and has a greater number."""
    drops = []
    before = 0
    for sign in text:
        drops.append(is_dropped(stage, sign, before))
        before = number_after(stage, sign, before)
    return drops


def drop_words(stage, ending):
    """The words of the written form of a Drop, with the ones at its end."""
    numbered = ["after", str(stage.after)] if stage.after > 0 else []
    anew = ["each"] if stage.each else []
    return ["drop", stage.name, *numbered, *anew, *ending]


def read_stage(alphabet, written):
    """The stage that has this written form."""
    words = written.split(" ")
    if words[0] == "drop":
        return read_drop(alphabet, words)
    if words[0] == "write" and len(words) == 4 and words[2] == "for":
        return Write(alphabet, words[1], words[3])
    if words[0] == "once" and len(words) == 2:
        return Once(alphabet, words[1])
    if words[0] == "add" and len(words) == 2:
        return Add(alphabet, words[1])
    raise BadStage("text")


def read_drop(alphabet, words):
    """The Drop or LastDrop that these words write."""
    # The set may have any word as its name, so words that are its name say nothing of the form.
    last = len(words) >= 4 and words[-2:] == ["but", "last"]
    rest = words[2:-2] if last else words[2:]
    numbered = len(rest) >= 2 and rest[0] == "after"
    ending = rest[2:] if numbered else rest
    if len(words) < 2 or ending not in [[], ["each"]]:
        raise BadStage("text")
    signs_of_set(alphabet, words[1])
    if numbered and rest[1] not in ["1", "2", "3"]:
        raise BadStage("after")
    after = int(rest[1]) if numbered else 0
    if last:
        return LastDrop(alphabet, words[1], after=after, each=ending == ["each"])
    return Drop(alphabet, words[1], after=after, each=ending == ["each"])
