"""What is surely known from what was heard (points 22 to 26)."""

from talepost.errors import Uncertain
from talepost.leads import parting_text
from talepost.letters import check_alphabets, shortlex
from talepost.machines import first_heard, first_outs, keeper, listener
from talepost.nets import first_of_two
from talepost.stocks import Stock
from talepost.wiring import reading_net


def link(first, second, stock):
    """The machine that says what `second` says of a text of the stock, for what `first` says of it."""
    check_alphabets([first, second, stock])
    return ~first.on(stock) * second


def is_certain(machine):
    """Whether the machine says at most one text for each text."""
    return parting_text(machine, machine) is None


def several(machine):
    """The first text for which more than one text is said, and the first two of these; or None."""
    text = parting_text(machine, machine)
    if text is None:
        return None
    one, other = first_outs(machine, text, 2)
    return (text, one, other)


def doubt(first, second, stock):
    """What leaves a doubt about what `second` says, for who hears what `first` says of the stock; or None."""
    found = several(link(first, second, stock))
    if found is None:
        return None
    out, one, other = found
    texts = [first_sent(first, second, stock, (out, each)) for each in [one, other]]
    return (out, one, other, *texts)


def first_sent(first, second, stock, outs):
    """The first text of the stock for which `first` says the first of two texts and `second` the other one; or None."""
    return first_heard(listener(only(first.on(stock), outs[0])) * only(second, outs[1]))


def only(machine, out):
    """The machine that says the same, but no text other than `out`."""
    return machine.into(Stock.listed(machine.alphabet, [out]))


def melted(machine, stock):
    """The first text that is said for two texts of the stock, and the first two of these; or None."""
    check_alphabets([machine, stock])
    return several(~machine.on(stock))


def same(first, second):
    """The first text for which two certain machines do not say the same, or None."""
    check_alphabets([first, second])
    check_certain(first)
    check_certain(second)
    return differ_on(first, second)


def check_certain(machine):
    """Raise Uncertain unless the machine is certain."""
    text = parting_text(machine, machine)
    if text is not None:
        raise Uncertain(text)


def differ_on(first, second):
    """The first text for which only one of the machines says something, or both say different texts; or None.

    If it is None, both machines are certain: what one says for a text is equal to all that the other one says.
    """
    return sooner_alone(parting_text(first, second), first, second)


def sooner_alone(found, first, second):
    """The first text for which only one of the machines says something, if no other one is found sooner."""
    nets = [(reading_net(machine), machine.goods) for machine in [first, second]]
    return sooner(found, first_of_two(nets[0], nets[1], False, None if found is None else len(found)))


def sooner(one, other):
    """The first of two texts, each of which may be None."""
    found = shortlex([text for text in [one, other] if text is not None])
    return found[0] if found else None


def returned(machine, stock):
    """The first text of the stock for which something else than this text alone is said, or None."""
    check_alphabets([machine, stock])
    spoken, kept = machine.on(stock), keeper(stock)
    return sooner_alone(parting_text(spoken, kept), spoken, kept)


def tells(machine, stock, asked):
    """The first text that leaves open whether the text of the stock belongs to `asked`, with two such; or None."""
    check_alphabets([machine, stock, asked])
    inside, outside = ~machine.on(stock & asked), ~machine.on(stock - asked)
    out = first_of_two((reading_net(inside), inside.goods), (reading_net(outside), outside.goods), True)
    if out is None:
        return None
    return (out, first_outs(inside, out, 1)[0], first_outs(outside, out, 1)[0])
