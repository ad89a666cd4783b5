"""Choices of some of several things."""


def by_length(things):
    """All lists of some of the things, which ascend: shorter lists first, then in the order of lists."""
    found = []
    layer = [[]]
    while layer:
        found.extend(layer)
        layer = [chosen + [thing] for chosen in layer for thing in things if chosen == [] or thing > chosen[-1]]
    return found
