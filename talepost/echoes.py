"""Echoes: other texts that come back as the text that was sent (point 38)."""

from talepost.letters import check_alphabets


def echo(there, back, text):
    """The first other text that can come out of the text, and out of which the text can come back; or None."""
    check_alphabets([there, back])
    there.alphabet.check(text)
    both = there & ~back
    choices = [both[sign] for sign in text]
    if "" in choices:
        return None
    first = "".join([signs[0] for signs in choices])
    if first != text:
        return first
    # The second text differs from the first one as late as possible.
    open_places = [at for at, signs in enumerate(choices) if len(signs) > 1]
    if not open_places:
        return None
    last = open_places[-1]
    return text[:last] + choices[last][1] + text[last + 1:]


def ranks(cast):
    """The least rank for each sign with which all that is said is the sign itself or has a greater rank; or None."""
    rank = {sign: 0 for sign in cast.alphabet.signs}
    steps = [(told, out) for letter in cast.members() for told, out in cast[letter].pairs() if told != out]
    # A way that visits no sign twice has fewer steps than there are signs, so a later change is one of a ring.
    for _ in cast.alphabet.signs:
        low = [(told, out) for told, out in steps if rank[out] <= rank[told]]
        for told, out in low:
            rank[out] = max(rank[out], rank[told] + 1)
    if any([rank[out] <= rank[told] for told, out in steps]):
        return None
    return [rank[sign] for sign in cast.alphabet.signs]


def ring(cast):
    """(sent, got, out_row, home_row) for the first two signs that rows make of each other; None if there are ranks."""
    if ranks(cast) is not None:
        return None
    ways = {sign: least_rows(cast, sign) for sign in cast.alphabet.signs}
    pairs = [(sent, got) for sent in ways for got in cast.alphabet.signs
             if sent != got and got in ways[sent] and sent in ways[got]]
    sent, got = pairs[0]
    return (sent, got, ways[sent][got], ways[got][sent])


def least_rows(cast, sent):
    """For each sign that can come out of the sent one through some row, the least such row."""
    people = {letter: cast[letter] for letter in cast.members()}
    rows = {sent: ""}
    layer = [("", sent)]
    while layer:
        longer = [(row + letter, out) for row, sign in layer for letter in people for out in people[letter][sign]]
        layer = []
        for row, out in sorted(longer):
            if out not in rows:
                rows[out] = row
                layer.append((row, out))
    return rows
