"""Stretches: all rows that match a pattern, whatever their length (points 73 to 76)."""

from talepost.casts import check_row
from talepost.choices import by_length
from talepost.errors import TooMany
from talepost.letters import check_alphabets, shortlex
from talepost.lots import Lot
from talepost.machines import any_of
from talepost.patterns import after_letter, check_pattern, lengths_left, opened, people_of
from talepost.stocks import Stock
from talepost.sure import check_certain, differ_on, melted

MOST_WAYS = 400
MOST_TEXTS = 8


def matches(post, pattern, row):
    """Whether the row matches the pattern."""
    check_pattern(post, pattern)
    check_row(post, row)
    people = people_of(post)
    places = opened(pattern, [0])
    for letter in row:
        places = after_letter(pattern, people, places, letter)
    return len(pattern) in places


def rows_of(post, pattern, length):
    """All rows of this length that match the pattern, in alphabetical order."""
    check_pattern(post, pattern)
    people = people_of(post)
    fits = lengths_left(pattern, people, length)
    letters = post.members()[::-1]
    stack = [("", opened(pattern, [0]))] if length >= 0 else []
    while stack:
        row, places = stack.pop()
        left = length - len(row)
        if any([fits[at][left] for at in places]):
            if left == 0:
                yield row
            else:
                stack.extend([(row + letter, after_letter(pattern, people, places, letter)) for letter in letters])


def chief_rows(post, pattern):
    """The chief rows of the pattern in order: each row that matches says what one of them says."""
    check_pattern(post, pattern)
    people = people_of(post)
    names = Lot(post.cast()).names() if "*" in pattern else []
    choices = [people if sign == "?" else names if sign == "*" else [sign] for sign in pattern]
    ways = 1
    for choice in choices:
        ways = ways * len(choice)
    if ways > MOST_WAYS:
        raise TooMany(MOST_WAYS)
    rows = [""]
    for choice in choices:
        rows = [row + chosen for row in rows for chosen in choice]
    return shortlex(rows)


def least_row(post, pattern, wish):
    """The first chief row whose machine the wish is True for, or None."""
    for row in chief_rows(post, pattern):
        if wish(post.through(row)):
            return row
    return None


def pattern_machine(post, pattern):
    """A machine that says what at least one row that matches the pattern says."""
    return any_of(post.alphabet, [post.through(row) for row in chief_rows(post, pattern)])


def pattern_melted(post, pattern, stock):
    """The least row that matches in which texts of the stock melt, and the triple of `melted` for it; or None."""
    check_alphabets([post, stock])
    for row in chief_rows(post, pattern):
        found = melted(post.through_on(row, stock), stock)
        if found is not None:
            return (row, *found)
    return None


def pattern_same(post, pattern, other, stock):
    """The least row that matches and is not the same as the other one on the stock, and the first text; or None."""
    check_alphabets([post, stock])
    rows = chief_rows(post, pattern)
    check_row(post, other)
    expected = post.through_on(other, stock)
    check_certain(expected)
    for row in rows:
        machine = post.through_on(row, stock)
        check_certain(machine)
        text = differ_on(machine, expected)
        if text is not None:
            return (row, text)
    return None


def safe_texts(post, pattern, texts):
    """The longest list of different texts of which no two melt in any row that matches."""
    rows = chief_rows(post, pattern)
    for text in texts:
        post.alphabet.check(text)
    listed = shortlex(texts)
    if len(listed) > MOST_TEXTS:
        raise TooMany(MOST_TEXTS)
    clashes = clashing(post, rows, listed)
    best = []
    for chosen in by_length(list(range(len(listed)))):
        if len(chosen) > len(best) and not any([pair in clashes for pair in pairs_in(chosen)]):
            best = chosen
    return [listed[at] for at in best]


def pairs_in(numbers):
    """All pairs of two of the numbers, which ascend."""
    return [(one, other) for at, one in enumerate(numbers) for other in numbers[at + 1:]]


def clashing(post, rows, texts):
    """The pairs of numbers of texts that melt in at least one of the rows."""
    clashes = []
    stock = Stock.listed(post.alphabet, texts)
    for row in rows:
        machine = post.through_on(row, stock)
        if melted(machine, stock) is not None:
            images = [machine.image(Stock.listed(post.alphabet, [text])) for text in texts]
            clashes.extend([(one, other) for one, other in pairs_in(list(range(len(texts))))
                            if images[one] & images[other]])
    return clashes
