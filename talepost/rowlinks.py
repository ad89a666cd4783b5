"""What rows of a post tell of a text (points 69 and 70)."""

from talepost.casts import check_row
from talepost.letters import check_alphabets
from talepost.machines import any_of
from talepost.rowruns import product_along, senders_along, settings_of
from talepost.sure import first_sent, link, several, sooner


def row_link(post, heard, asked, stock):
    """The machine that says what one row says of a text of the stock, for what the other one says of it."""
    links = [link(first, second, stock) for first, second in pairs_of_rows(post, heard, asked, stock)]
    return any_of(post.alphabet, links)


def row_doubt(post, heard, asked, stock):
    """What leaves a doubt about what the row `asked` says, for who hears the row `heard`; or None."""
    found = several(row_link(post, heard, asked, stock))
    if found is None:
        return None
    out, one, other = found
    text = other_text = None
    for first, second in pairs_of_rows(post, heard, asked, stock):
        text = sooner(text, first_sent(first, second, stock, (out, one)))
        other_text = sooner(other_text, first_sent(first, second, stock, (out, other)))
    return (out, one, other, text, other_text)


def pairs_of_rows(post, heard, asked, stock):
    """Pairs of machines: together they say what the two rows say of a text of the stock in one and the same world."""
    check_alphabets([post, stock])
    check_row(post, heard)
    check_row(post, asked)
    return [(product_along(post, setting, heard, stock), product_along(post, setting, asked, stock))
            for setting in settings_of(post, post.worlds(), heard + asked)]


def senders(post, row, out, stock):
    """The stock of those texts of the stock for which the row says `out` in at least one world."""
    check_alphabets([post, stock])
    check_row(post, row)
    post.alphabet.check(out)
    return senders_along(post, post.worlds(), row, out, stock)
