"""The errors of the program. Their attributes have the names of their arguments."""


class TaleError(ValueError):
    """The base class of all errors of the program."""


class Mixed(TaleError):
    """Objects with different alphabets were used together."""


class BadAlphabet(TaleError):
    def __init__(self, part):
        super().__init__(f"not the {part} of an alphabet")
        self.part = part


class BadText(TaleError):
    def __init__(self, text):
        super().__init__(f"not a text of the alphabet: {text!r}")
        self.text = text


class BadSet(TaleError):
    def __init__(self, name):
        super().__init__(f"not the name of a set of signs: {name!r}")
        self.name = name


class BadTable(TaleError):
    def __init__(self, place):
        super().__init__(f"wrong table, at place {place}")
        self.place = place


class BadShape(TaleError):
    def __init__(self, place):
        super().__init__(f"wrong shape, at index {place}")
        self.place = place


class Uncertain(TaleError):
    def __init__(self, text):
        super().__init__(f"more than one text is said for {text!r}")
        self.text = text


class BadPair(TaleError):
    def __init__(self, index):
        super().__init__(f"not a pair of signs: number {index}")
        self.index = index


class UnknownSign(TaleError):
    def __init__(self, sign):
        super().__init__(f"not a sign of the alphabet: {sign!r}")
        self.sign = sign


class BadCount(TaleError):
    def __init__(self, count):
        super().__init__(f"not an allowed number: {count}")
        self.count = count


class BadPerson(TaleError):
    def __init__(self, part):
        super().__init__(f"not what a person {part}")
        self.part = part


class BadLetter(TaleError):
    def __init__(self, letter):
        super().__init__(f"not a letter from A to Z: {letter!r}")
        self.letter = letter


class UnknownLetter(TaleError):
    def __init__(self, letter, place):
        super().__init__(f"nobody has the letter {letter!r}, at index {place}")
        self.letter = letter
        self.place = place


class TooMany(TaleError):
    def __init__(self, most):
        super().__init__(f"more than {most}")
        self.most = most


class BadName(TaleError):
    def __init__(self, name):
        super().__init__(f"not a name: {name!r}")
        self.name = name


class BadForm(TaleError):
    def __init__(self, form):
        super().__init__(f"not a form: {form!r}")
        self.form = form


class UnknownPlace(TaleError):
    def __init__(self, place):
        super().__init__(f"not a place for an entry: {place!r}")
        self.place = place


class DuplicateName(TaleError):
    def __init__(self, name):
        super().__init__(f"this name occurs twice: {name!r}")
        self.name = name


class Conflict(TaleError):
    def __init__(self, name, other):
        super().__init__(f"the entry {name!r} conflicts with {other!r}")
        self.name = name
        self.other = other


class UnknownName(TaleError):
    def __init__(self, name):
        super().__init__(f"no entry has the name {name!r}")
        self.name = name


class UnknownKind(TaleError):
    def __init__(self, kind):
        super().__init__(f"not a kind: {kind!r}")
        self.kind = kind


class TakenShort(TaleError):
    def __init__(self, name):
        super().__init__(f"the entry {name!r} has this short form")
        self.name = name


class BadStage(TaleError):
    def __init__(self, what):
        super().__init__(f"wrong stage, in its {what}")
        self.what = what


class BadRule(TaleError):
    def __init__(self, stage, what):
        super().__init__(f"wrong rule, at stage {stage}, in its {what}")
        self.stage = stage
        self.what = what


class BadMenu(TaleError):
    def __init__(self, index):
        super().__init__(f"wrong menu, at index {index}")
        self.index = index


class UnknownRule(TaleError):
    def __init__(self, index):
        super().__init__(f"no rule has the index {index}")
        self.index = index


class BadRecording(TaleError):
    def __init__(self, place):
        super().__init__(f"wrong recording, at index {place}")
        self.place = place


class BadKey(TaleError):
    def __init__(self, key):
        super().__init__(f"not a key: {key!r}")
        self.key = key


class UnknownOutcome(TaleError):
    def __init__(self, outcome):
        super().__init__(f"not an outcome: {outcome!r}")
        self.outcome = outcome


class UnknownWorld(TaleError):
    def __init__(self, world):
        super().__init__(f"not a world: {world!r}")
        self.world = world


class BadPattern(TaleError):
    def __init__(self, place):
        super().__init__(f"wrong pattern, at index {place}")
        self.place = place


class NoWorld(TaleError):
    def __init__(self, fewest):
        super().__init__(f"each world would miss {fewest} entries or more")
        self.fewest = fewest


class UnknownEntry(TaleError):
    def __init__(self, number):
        super().__init__(f"no entry has the number {number}")
        self.number = number


class NoPlan(TaleError):
    """No plan finds out which world is the right one."""


class BadIndex(TaleError):
    def __init__(self, at):
        super().__init__(f"not a place of the row: {at}")
        self.at = at


class TooLong(TaleError):
    def __init__(self, limit):
        super().__init__(f"more than {limit} letters")
        self.limit = limit


class Melted(TaleError):
    def __init__(self, out, one, other):
        super().__init__(f"{out!r} would be said for both {one!r} and {other!r}")
        self.out = out
        self.one = one
        self.other = other


class NothingToUndo(TaleError):
    """No change can be taken back."""


class NothingToRedo(TaleError):
    """No change can be made again."""


class Refused(TaleError):
    def __init__(self, index):
        super().__init__(f"the deed with the index {index} was refused")
        self.index = index


class BadLine(TaleError):
    def __init__(self, line):
        super().__init__(f"wrong book, in line {line}")
        self.line = line


class BadEntry(TaleError):
    def __init__(self, index):
        super().__init__(f"wrong table, in the entry with the index {index}")
        self.index = index


class Unbounded(TaleError):
    def __init__(self, index):
        super().__init__(f"infinitely many texts for one text, by the machine with the index {index}")
        self.index = index
