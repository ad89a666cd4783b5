"""Printed lines (point 84)."""

from talepost.sure import is_certain


def world_lines(ledger):
    """A line for each world: its indexes, whether it is left, and how many entries it misses."""
    left = ledger.left()
    lines = []
    for world in ledger.worlds():
        name = ",".join([str(index) for index in world]) or "-"
        word = "left" if world in left else "out"
        lines.append(f"{name:<10} {word:<4} {len(ledger.misses(world)):>3}")
    return lines


def post_lines(post):
    """A line for each station: its letter, its kind, and whether its machine is certain."""
    lines = []
    for letter in post.members():
        station = post[letter]
        word = "certain" if is_certain(station.machine()) else "several"
        lines.append(f"{letter} {station.KIND:<6} {word}")
    return lines
