"""What a row of a post says, in some of the post's worlds.

A setting tells for each letter of a hidden station in the row which of its machines it may use: a dict of lists
of indexes.
"""

from talepost.machines import Machine, any_of, keeper
from talepost.nets import earliest
from talepost.stations import Hearer, Hidden, Plain
from talepost.stocks import Stock
from talepost.wiring import writing_net


def hidden_letters(post):
    """The letters of the hidden stations in ascending order."""
    return [letter for letter in post.members() if isinstance(post[letter], Hidden)]


def groups_of(post, worlds, row):
    """Pairs (setting, worlds): the worlds that use the same machines in the row, with a setting of single indexes."""
    hidden = hidden_letters(post)
    used = [letter for letter in hidden if letter in row]
    groups = {}
    for world in worlds:
        indexes = tuple([index for letter, index in zip(hidden, world) if letter in row])
        groups[indexes] = groups.get(indexes, []) + [world]
    return [({letter: [index] for letter, index in zip(used, key)}, groups[key]) for key in groups]


def settings_of(post, worlds, row):
    """As few settings as easily found that together say what the row says in at least one of the worlds.

    A station that stands in the row once may as well use any of several machines, as far as the others allow.
    """
    settings = [setting for setting, _ in groups_of(post, worlds, row)]
    for letter in hidden_letters(post):
        if row.count(letter) == 1:
            settings = joined_at(settings, letter)
    return settings


def joined_at(settings, letter):
    """The settings with one instead of those that differ only at this letter."""
    joined = {}
    for setting in settings:
        others = tuple([tuple(setting[other]) for other in setting if other != letter])
        indexes = joined[others][letter] if others in joined else []
        joined[others] = {**setting, letter: sorted(indexes + setting[letter])}
    return list(joined.values())


def machines_along(post, setting, row):
    """Machines that say behind each other what the row says."""
    machines = []
    heard = None
    for letter in row:
        station = post[letter]
        if isinstance(station, Hearer):
            heard = station.person.table if heard is None else heard * station.person.table
        elif not isinstance(station, Plain):
            if heard is not None:
                machines.append(heard.machine())
                heard = None
            machines.append(machine_in(station, setting.get(letter, [])))
    if heard is not None:
        machines.append(heard.machine())
    return machines


def machine_in(station, indexes):
    """The machine of a station; of a hidden one, that of what its machines with these indexes say."""
    if not isinstance(station, Hidden):
        return station.machine()
    if len(indexes) == 1:
        return station.choices[indexes[0]]
    return any_of(station.alphabet, [station.choices[index] for index in indexes])


def product_along(post, setting, row, stock=None):
    """The product of the machines of the row; if there is a stock, it says something for the texts of it alone."""
    # If the stock comes first, all products stay as small as its texts allow.
    begun = [] if stock is None else [keeper(stock)]
    machines = begun + machines_along(post, setting, row)
    machine = machines[0] if machines else Machine.identity(post.alphabet)
    for other in machines[1:]:
        machine = machine * other
    return machine


def union_along(post, worlds, row, stock=None):
    """A machine that says what the row says in at least one of the worlds; a stock is meant as in `product_along`."""
    products = [product_along(post, setting, row, stock) for setting in settings_of(post, worlds, row)]
    return products[0] if len(products) == 1 else any_of(post.alphabet, products)


def spoken_along(post, setting, row, text):
    """A machine that says for the empty text what the row says for the text."""
    machine = keeper(Stock.listed(post.alphabet, [text]))
    for other in machines_along(post, setting, row):
        machine = unheard(machine) * other
    return unheard(machine)


def unheard(machine):
    """The machine that says for the empty text all that the machine says."""
    return Machine(machine.alphabet, [[("", write, to) for _, write, to in row] for row in machine.arcs], machine.goods)


def outs_along(post, worlds, row, text):
    """The texts that the row says for the text in at least one of the worlds."""
    settings = settings_of(post, worlds, row)
    spoken = any_of(post.alphabet, [spoken_along(post, setting, row, text) for setting in settings])
    return earliest(writing_net(spoken), spoken.goods, None)


def senders_along(post, worlds, row, out, stock):
    """The stock of those texts of the stock for which the row says `out` in at least one of the worlds."""
    senders = []
    for setting in settings_of(post, worlds, row):
        machine = keeper(Stock.listed(post.alphabet, [out]))
        for other in machines_along(post, setting, row)[::-1]:
            machine = ~unheard(~(other * machine))
        senders.append(machine)
    return any_of(post.alphabet, senders).on(stock).domain()
