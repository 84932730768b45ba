"""Switches: where gates cross ground; and the list of a sheet."""

from maskwright.errors import NoSwitch
from maskwright.mixing import area_in, both, fills
from maskwright.nets import Plan
from maskwright.pieces import pieces
from maskwright.regions import first_place, only_rect, rows_behind


def end_rows(bare, ground, rect):
    """The rows of places behind a channel's rectangle in which its ends are, or None where it is no switch."""
    upright, lying = rows_behind(rect, 1)
    for ends, others in ((upright, lying), (lying, upright)):
        if all([fills(bare, row) for row in ends]) and all([area_in(ground, row) == 0 for row in others]):
            return ends
    return None


def switch_of(plan, sort, ground, channel):
    """The switch that a channel is, or None where it is none."""
    rect = only_rect(channel)
    if rect is None:
        return None
    ends = end_rows(plan.regions[sort], ground, rect)
    if ends is None:
        return None
    x0, y0, x1, y1 = rect
    width, length = y1 - y0, x1 - x0
    # Ends below and above have sides that are as long as the channel is wide in x.
    if ends[0][0] == x0:
        width, length = length, width
    nets = sorted([plan.net_on(sort, row[0], row[1]) for row in ends])
    return (sort, plan.net_on("g", x0, y0), nets[0], nets[1], width, length)


def named_nets(plan, marks):
    """The names of marks with the nets on which they lie: a tuple of tuples (name, net), sorted, each once."""
    found = [(name, plan.net_on(layer, x, y)) for name, layer, x, y in marks]
    return tuple(sorted({(name, net) for name, net in found if net is not None}))


def listed(sheet):
    """The list of a sheet."""
    plan = Plan(sheet)
    n, p, g, w, v, k = sheet[0]
    switches = []
    wrong = []
    for sort, ground in (("n", n), ("p", p)):
        for channel in pieces(both(g, ground)):
            switch = switch_of(plan, sort, ground, channel)
            if switch is None:
                x, y = first_place(channel)
                wrong.append((y, x))
            else:
                switches.append(switch)
    if wrong:
        y, x = min(wrong)
        raise NoSwitch(x, y)
    return (len(plan.nets), named_nets(plan, sheet[1]), tuple(sorted(switches)))


def faults(sheet):
    """The faults of a sheet's marks: a tuple (loose, open, short)."""
    plan = Plan(sheet)
    loose = [mark for mark in sheet[1] if plan.net_on(mark[1], mark[2], mark[3]) is None]
    nets_of = {}
    names_of = {}
    for name, net in named_nets(plan, sheet[1]):
        nets_of.setdefault(name, []).append(net)
        names_of.setdefault(net, []).append(name)
    split = [name for name in nets_of if len(nets_of[name]) > 1]
    short = [tuple(names_of[net]) for net in names_of if len(names_of[net]) > 1]
    # Marks and names come sorted; which of two nets stands ahead says nothing of their names.
    return (tuple(loose), tuple(split), tuple(sorted(short)))
