"""What several tests use: small machines and stocks, and slow ways to find out what a machine says."""

import itertools

from talepost.books import Book
from talepost.errors import Conflict
from talepost.letters import Alphabet
from talepost.machines import Machine
from talepost.stocks import Stock

AB = Alphabet("ab", "a")
OTHER = Alphabet("ab")
ABK = Alphabet("abk")

# The kinds that each place of an entry allows.
ALLOWED = {"any": ["start", "joint", "letter"], "opening": ["start", "joint"], "inner": ["letter"]}


def all_texts(alphabet, most):
    return ["".join(signs) for length in range(most + 1) for signs in itertools.product(alphabet.signs, repeat=length)]


def by_order(text):
    return len(text), text


def said(machine, longest_text, longest_out):
    """What the machine says within these lengths: for each text the set of its outs."""
    met = {(0, "", "")}
    queue = [(0, "", "")]
    outs = {}
    while queue:
        place, text, out = queue.pop()
        if machine.goods[place]:
            outs.setdefault(text, set()).add(out)
        for read, write, to in machine.arcs[place]:
            step = (to, text + read, out + write)
            if len(step[1]) <= longest_text and len(step[2]) <= longest_out and step not in met:
                met.add(step)
                queue.append(step)
    return outs


def random_machine(rng, alphabet=AB, signs="-a"):
    many = rng.randint(1, 3)
    empty = rng.choice([0.1, 0.3])
    rows = [[] for _ in range(many)]
    for _ in range(rng.randint(1, 6)):
        read = "" if rng.random() < empty else rng.choice(signs)
        write = "" if rng.random() < empty else rng.choice(signs)
        rows[rng.randrange(many)].append((read, write, rng.randrange(many)))
    return Machine(alphabet, rows, [rng.random() < 0.5 for _ in range(many)])


def random_stock(rng, alphabet=AB):
    many = rng.randint(1, 4)
    rows = [[rng.randrange(-1, many) for _ in alphabet.signs] for _ in range(many)]
    return Stock(alphabet, rows, [rng.random() < 0.5 for _ in range(many)])


def counting_machine(alphabet, many, spell=None):
    """A machine of so many places in a ring that says each text whose length they divide; `spell` changes signs."""
    rows = [[(sign, spell(place, sign) if spell else sign, (place + 1) % many) for sign in alphabet.signs]
            for place in range(many)]
    return Machine(alphabet, rows, [place == 0 for place in range(many)])


def counting_stock(alphabet, many):
    return Stock(alphabet, [[(place + 1) % many for _ in alphabet.signs] for place in range(many)],
                 [place == 0 for place in range(many)])


def shape(written, alphabet=AB):
    return Stock.shaped(alphabet, written)


def pairs(*listed, alphabet=AB):
    return Machine.of_pairs(alphabet, list(listed))


def spelled(rows, ends, alphabet=AB):
    return Machine.spelled(alphabet, rows, ends)


def slow_scan(entries, text, after, reading):
    """The steps of a scan, sign by sign, straight from the words of the document."""
    steps, index, made = [], 0, ""
    while index < len(text):
        before = made if reading else text[:index]
        kind = after if before == "" else "joint" if before[-1] == "-" else "letter"
        best = ("", text[index], text[index])
        longest = 0
        for name, long, short, place in entries:
            seen, piece = (short, long) if reading else (long, short)
            if kind in ALLOWED[place] and text.startswith(seen, index) and len(seen) > longest:
                best, longest = (name, seen, piece), len(seen)
        steps.append((index, best[0], best[2]))
        index += len(best[1])
        made += best[2]
    return steps


def random_book(rng):
    book = Book(AB)
    for letter in "abcdef"[:rng.randint(1, 6)]:
        long = "".join(rng.choice("-ab") for _ in range(rng.randint(1, 4)))
        short = "".join(rng.choice("-ab") for _ in range(rng.randint(1, 3)))
        try:
            book = book + (letter, long, short, rng.choice(["any", "opening", "inner"]))
        except Conflict:
            pass
    return book
