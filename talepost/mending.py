"""How rows of a post can be mended (points 71 and 72)."""

from talepost.casts import check_row
from talepost.choices import by_length
from talepost.errors import TooMany
from talepost.letters import check_alphabets
from talepost.sure import differ_on, melted, returned

MOST_LETTERS = 5


def fewest_plain(post, row, stock):
    """The fewest places of the row at which a plain station keeps the texts of the stock apart."""
    check_alphabets([post, stock])
    check_row(post, row)
    if len(row) > MOST_LETTERS:
        raise TooMany(MOST_LETTERS)
    tried = {}
    for places in by_length(list(range(len(row)))):
        # A plain station at a place says the same as no station there.
        rest = "".join([letter for at, letter in enumerate(row) if at not in places])
        if rest not in tried:
            if melted(post.through_on(rest, stock), stock) is None:
                return places
            tried[rest] = True
    return list(range(len(row)))


def swappable(post, stock):
    """The pairs of letters whose two rows are certain and the same on the stock."""
    check_alphabets([post, stock])
    letters = post.members()
    return [(one, other) for at, one in enumerate(letters) for other in letters[at + 1:]
            if differ_on(post.through_on(one + other, stock), post.through_on(other + one, stock)) is None]


def undoing(post, row, stock):
    """The least row of at most two letters behind which each text of the stock comes back; or None."""
    check_alphabets([post, stock])
    check_row(post, row)
    letters = post.members()
    for behind in ["", *letters, *[one + other for one in letters for other in letters]]:
        if returned(post.through_on(row + behind, stock), stock) is None:
            return behind
    return None
