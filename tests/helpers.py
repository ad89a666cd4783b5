"""What several tests use: small machines and stocks, and slow ways to find out what a machine says."""

import itertools

from talepost.books import Book
from talepost.errors import Conflict, Unbounded
from talepost.letters import Alphabet
from talepost.machines import Machine
from talepost.people import Doubter, Person
from talepost.posts import Post
from talepost.stations import Fixed, Hearer, Hidden, Plain
from talepost.stocks import Stock

AB = Alphabet("ab", "a")
OTHER = Alphabet("ab")
ABK = Alphabet("abk")

# The kinds that each place of an entry allows.
ALLOWED = {"any": ["start", "joint", "letter"], "opening": ["start", "joint"], "inner": ["letter"]}


def all_texts(alphabet, most):
    return ["".join(signs) for length in range(most + 1) for signs in itertools.product(alphabet.signs, repeat=length)]


def by_order(text):
    return len(text), text


def said(machine, longest_text, longest_out):
    """What the machine says within these lengths: for each text the set of its outs."""
    met = {(0, "", "")}
    queue = [(0, "", "")]
    outs = {}
    while queue:
        place, text, out = queue.pop()
        if machine.goods[place]:
            outs.setdefault(text, set()).add(out)
        for read, write, to in machine.arcs[place]:
            step = (to, text + read, out + write)
            if len(step[1]) <= longest_text and len(step[2]) <= longest_out and step not in met:
                met.add(step)
                queue.append(step)
    return outs


def random_machine(rng, alphabet=AB, signs="-a"):
    many = rng.randint(1, 3)
    empty = rng.choice([0.1, 0.3])
    rows = [[] for _ in range(many)]
    for _ in range(rng.randint(1, 6)):
        read = "" if rng.random() < empty else rng.choice(signs)
        write = "" if rng.random() < empty else rng.choice(signs)
        rows[rng.randrange(many)].append((read, write, rng.randrange(many)))
    return Machine(alphabet, rows, [rng.random() < 0.5 for _ in range(many)])


def random_stock(rng, alphabet=AB):
    many = rng.randint(1, 4)
    rows = [[rng.randrange(-1, many) for _ in alphabet.signs] for _ in range(many)]
    return Stock(alphabet, rows, [rng.random() < 0.5 for _ in range(many)])


def counting_machine(alphabet, many, spell=None):
    """A machine of so many places in a ring that says each text whose length they divide; `spell` changes signs."""
    rows = [[(sign, spell(place, sign) if spell else sign, (place + 1) % many) for sign in alphabet.signs]
            for place in range(many)]
    return Machine(alphabet, rows, [place == 0 for place in range(many)])


def counting_stock(alphabet, many):
    return Stock(alphabet, [[(place + 1) % many for _ in alphabet.signs] for place in range(many)],
                 [place == 0 for place in range(many)])


def shape(written, alphabet=AB):
    return Stock.shaped(alphabet, written)


def pairs(*listed, alphabet=AB):
    return Machine.of_pairs(alphabet, list(listed))


def spelled(rows, ends, alphabet=AB):
    return Machine.spelled(alphabet, rows, ends)


def slow_scan(entries, text, after, reading):
    """The steps of a scan, sign by sign, straight from the words of the document."""
    steps, index, made = [], 0, ""
    while index < len(text):
        before = made if reading else text[:index]
        kind = after if before == "" else "joint" if before[-1] == "-" else "letter"
        best = ("", text[index], text[index])
        longest = 0
        for name, long, short, place in entries:
            seen, piece = (short, long) if reading else (long, short)
            if kind in ALLOWED[place] and text.startswith(seen, index) and len(seen) > longest:
                best, longest = (name, seen, piece), len(seen)
        steps.append((index, best[0], best[2]))
        index += len(best[1])
        made += best[2]
    return steps


def random_book(rng):
    book = Book(AB)
    for letter in "abcdef"[:rng.randint(1, 6)]:
        long = "".join(rng.choice("-ab") for _ in range(rng.randint(1, 4)))
        short = "".join(rng.choice("-ab") for _ in range(rng.randint(1, 3)))
        try:
            book = book + (letter, long, short, rng.choice(["any", "opening", "inner"]))
        except Conflict:
            pass
    return book


class SlowPage:
    """A page as a list of signs ahead of the caret and one of signs behind it, in the words of the document."""

    def __init__(self, text):
        self.past, self.ahead = [], list(text)
        self.mark, self.kept = None, []

    def drop_mark(self):
        if self.mark is not None and len(self.past) > self.mark + 2:
            self.mark = None

    def step(self):
        self.past.append(self.ahead.pop(0))
        self.drop_mark()

    def insert(self, sign):
        self.past.append(sign)
        self.drop_mark()

    def press(self, key):
        kind, sign = key[0], key[1:]
        if kind in ">x":
            if not self.ahead:
                return False
            if kind == ">":
                self.step()
            else:
                self.ahead.pop(0)
        elif kind == "'":
            self.insert(sign)
        elif kind == "=":
            return self.ahead[:1] == [sign]
        elif kind == "/":
            while self.ahead and self.ahead[0] != sign:
                self.step()
            return bool(self.ahead)
        elif kind == "w":
            while self.ahead and self.ahead[0] != "-":
                self.step()
        elif kind == "^":
            return not self.past or self.past[-1] == "-"
        elif kind == "m":
            self.mark = len(self.past)
        elif kind == "p":
            for each in self.kept:
                self.insert(each)
            return bool(self.kept)
        elif self.mark is None:
            return False
        else:
            self.kept = self.past[self.mark:]
            if kind == "c":
                del self.past[self.mark:]
        return True

    def state(self):
        held = None if self.mark is None else "".join(self.past[self.mark:])
        return ["".join(self.past + self.ahead), len(self.past), self.mark, "".join(self.kept), held]


class Failure(Exception):
    """A key failed the group around it."""


class Endless(Exception):
    """The play has had very many presses."""


class SlowPlay:
    """Plays a notation straight from the words of point 57, group within group, and gives up after many presses."""

    def __init__(self, notation, text, most=600):
        self.notation, self.page, self.most = notation, SlowPage(text), most
        self.rows = []
        self.number = {}
        at = many = 0
        while at < len(notation):
            if notation[at] not in "()[|]":
                self.number[at] = many
                many += 1
            at += 2 if notation[at] in "'=/" else 1
        try:
            self.sequence(0, len(notation))
            self.outcome = "done"
        except Failure:
            self.outcome = "failed"
        except Endless:
            self.outcome = "endless"

    def sequence(self, at, end):
        while at < end:
            sign = self.notation[at]
            if sign == "(":
                close = self.closing(at)
                try:
                    while True:
                        self.sequence(at + 1, close)
                except Failure:
                    pass
                at = close + 1
            elif sign == "[":
                close = self.closing(at)
                bar = self.bar(at)
                try:
                    self.sequence(at + 1, bar)
                    fails = False
                except Failure:
                    fails = True
                if fails:
                    self.sequence(bar + 1, close)
                at = close + 1
            else:
                key = self.notation[at:at + (2 if sign in "'=/" else 1)]
                self.press(key, self.number[at])
                at += len(key)

    def press(self, key, number):
        if len(self.rows) == self.most:
            raise Endless()
        works = self.page.press(key)
        text, caret = self.page.state()[:2]
        self.rows.append((number, works, text, caret))
        if not works:
            raise Failure()

    def closing(self, at):
        depth = 0
        while True:
            sign = self.notation[at]
            depth += {"(": 1, "[": 1, ")": -1, "]": -1}.get(sign, 0)
            if depth == 0:
                return at
            at += 2 if sign in "'=/" else 1

    def bar(self, at):
        at += 1
        while self.notation[at] != "|":
            if self.notation[at] in "([":
                at = self.closing(at) + 1
            else:
                at += 2 if self.notation[at] in "'=/" else 1
        return at


def random_notation(rng, signs="-ab", depth=0):
    """A valid notation with few keys; parts of it may still have too many."""
    written = ""
    for _ in range(rng.randint(1, 4)):
        chance = rng.random()
        if depth < 4 and chance < 0.15:
            written += f"({random_notation(rng, signs, depth + 1)})"
        elif depth < 4 and chance < 0.3:
            other = random_notation(rng, signs, depth + 1) if rng.random() < 0.7 else ""
            written += f"[{random_notation(rng, signs, depth + 1)}|{other}]"
        else:
            key = rng.choice(list("'=/>>xxw^mmkcp"))
            written += key + rng.choice(signs) if key in "'=/" else key
    return written


def random_text(rng, most, signs="-ab"):
    return "".join(rng.choice(signs) for _ in range(rng.randint(0, most)))


def random_person(rng, alphabet=AB, most=2):
    signs = alphabet.signs
    kind = rng.choice([Person, Person, Doubter])
    return kind(alphabet, "".join(rng.choice(signs) for _ in signs),
                ["".join(rng.choice(signs) for _ in range(rng.randint(1, most))) for _ in signs])


def random_bounded(rng, signs="-ab"):
    """A random machine that says at most finitely many texts for each text."""
    while True:
        machine = random_machine(rng, AB, signs)
        try:
            Fixed(machine)
        except Unbounded:
            continue
        return machine


class Model:
    """A post with people A and B, fixed stations F and G, a plain one P, and hidden ones; and what they say, slowly."""

    def __init__(self, rng, hidden=(2, 2)):
        self.people = {letter: random_person(rng) for letter in "AB"}
        self.fixed = {letter: random_bounded(rng) for letter in "FG"}
        self.hidden = {letter: [random_bounded(rng) for _ in range(many)] for letter, many in zip("HX", hidden)}
        stations = {letter: Hearer(person) for letter, person in self.people.items()}
        stations.update({letter: Fixed(machine) for letter, machine in self.fixed.items()})
        stations.update({letter: Hidden(machines) for letter, machines in self.hidden.items()})
        self.post = Post(AB, P=Plain(AB), **stations)
        self.worlds = list(itertools.product(*[range(len(machines)) for machines in self.hidden.values()]))

    def outs(self, world, row, text):
        """The set of the texts that come out of the row in one world."""
        found = {text}
        for letter in row:
            found = {out for mid in found for out in self.step(world, letter, mid)}
        return found

    def step(self, world, letter, text):
        if letter == "P":
            return [text]
        if letter in self.people:
            person = self.people[letter]
            return ["".join(out) for out in itertools.product(*[person.said(sign) for sign in text])]
        if letter in self.fixed:
            return self.fixed[letter].outs(text)
        return self.hidden[letter][world[list(self.hidden).index(letter)]].outs(text)

    def all_outs(self, row, text, worlds=None):
        return set().union(*[self.outs(world, row, text) for world in worlds or self.worlds])

    def random_row(self, rng, most=3):
        return "".join(rng.choice("ABFHHX" if len(self.hidden) > 1 else "ABFGHH") for _ in range(rng.randint(0, most)))


def small_rows(letters, most):
    return ["".join(row) for length in range(most + 1) for row in itertools.product(letters, repeat=length)]


def least_pair(outs_by_text):
    """(out, one, other) for the first out of two texts, if the dict has the set of outs of each text; or None."""
    texts_by_out = {}
    for text, outs in outs_by_text.items():
        for out in outs:
            texts_by_out.setdefault(out, set()).add(text)
    for out in sorted(texts_by_out, key=by_order):
        if len(texts_by_out[out]) > 1:
            return (out, *sorted(texts_by_out[out], key=by_order)[:2])
    return None
