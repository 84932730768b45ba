"""Lists of switches for tests: by chance, renumbered, chains, rings, and other shapes that many tests need."""

import random


def list_of(many, names, switches):
    """A list of names and switches in any order, their ends in any order."""
    names = sorted(set(names))
    switches = sorted((sort, gate, *sorted((one, other)), *size) for sort, gate, one, other, *size in switches)
    return (many, tuple(names), tuple(switches))


def renamed(some, new):
    """A list with its nets numbered otherwise: net k becomes new[k]."""
    many, names, switches = some
    names = [(name, new[net]) for name, net in names]
    return list_of(many, names, [
        (sort, new[gate], new[one], new[other], *size) for sort, gate, one, other, *size in switches
    ])


def shuffled(many, seed):
    """The numbers below many in an order by chance."""
    order = list(range(many))
    random.Random(seed).shuffle(order)
    return order


def some_list(seed, many=8, switches=10, names="", sizes=(1, 2)):
    """A list by chance, the same for each seed; each of the names is put on a net."""
    chance = random.Random(seed)
    named = [(name, chance.randrange(many)) for name in names]
    rows = [
        (chance.choice("np"), chance.randrange(many), chance.randrange(many), chance.randrange(many),
         chance.choice(sizes), chance.choice(sizes))
        for _ in range(switches)
    ]
    return list_of(many, named, rows)


def closed_way(nets, gate, size=(1, 1)):
    """Switches from each of some nets to the next one, and from the last to the first."""
    return [("n", gate, one, other, *size) for one, other in zip(nets, nets[1:] + nets[:1])]


def ring_pair():
    """Two lists that no number of rounds parts: a way around six nets, and two ways around three each."""
    names = [("g", 6)]
    one = list_of(7, names, closed_way([0, 1, 2, 3, 4, 5], 6))
    other = list_of(7, names, closed_way([0, 1, 2], 6) + closed_way([3, 4, 5], 6))
    return one, other


def loop_pair(lone=0, many=None):
    """Two lists that no number of rounds parts: two nets, each with a switch to itself or two to one another.

    Ahead of them there are so many lone nets, behind them the named gate, then nets in a row up to many.
    """
    one, other, gate = lone, lone + 1, lone + 2
    many = many or lone + 3
    row = [("p", gate, at, at + 1, 1, 1) for at in range(gate, many - 1)]
    loops = [("n", gate, one, one, 1, 1), ("n", gate, other, other, 1, 1)]
    cross = [("n", gate, one, other, 1, 1)] * 2
    return list_of(many, [("g", gate)], loops + row), list_of(many, [("g", gate)], cross + row)


def ends_pair(steps):
    """Two lists of two rows of so many switches each; a and b are at the left ends, wide switches at the right.

    In the second list the right ends are exchanged, which is seen only where a name and a width come together.
    """
    many = 2 * (steps + 1)
    names = [("a", 0), ("b", steps + 1)]
    rows = [("n", many, first + at, first + at + 1, 1, 1) for first in (0, steps + 1) for at in range(steps)]
    lists = []
    for widths in ((7, 8), (8, 7)):
        wide = [("p", many, last, last, width, 1) for last, width in zip((steps, many - 1), widths)]
        lists.append(list_of(many + 1, names + [("g", many)], rows + wide))
    return lists


def turner(gate, out, down, up):
    """An n and a p switch that turn a gate's worth over."""
    return [("n", gate, down, out, 2, 1), ("p", gate, out, up, 2, 1)]


def turners_in_row(many, ring=False):
    """Turners one behind another, the first one's gate being `a`, or in a ring; nets 0 and 1 are down and up."""
    names = [("down", 0), ("up", 1)]
    if ring:
        nets = list(range(2, 2 + many))
        pairs = list(zip(nets[-1:] + nets, nets))
        switches = [row for gate, out in pairs for row in turner(gate, out, 0, 1)]
        return list_of(2 + many, names, switches)
    switches = [row for at in range(many) for row in turner(2 + at, 3 + at, 0, 1)]
    return list_of(3 + many, names + [("a", 2)], switches)


def driven_by_words(some, given):
    """The nets that are given a worth, by point 27's words."""
    bits = dict(given) | {"up": 1, "down": 0}
    return {net: bits[name] for name, net in some[1] if name in bits}


def closed_by_words(some, given, worths):
    """The numbers of the closed switches."""
    now = dict(enumerate(worths)) | driven_by_words(some, given)
    return [at for at, row in enumerate(some[2]) if (row[0], now[row[1]]) in (("n", 1), ("p", 0))]


def is_strong(switch):
    return switch[4] >= switch[5]


def given_list(seed):
    """A list by chance with the names that are given to it, and worths."""
    chance = random.Random(seed)
    many = chance.randrange(2, 9)
    names = "abcd"[:chance.randrange(5)]
    some = some_list(seed, many=many, switches=chance.randrange(0, 14), names=names)
    extra = [(name, chance.randrange(many)) for name in ("up", "down") if chance.randrange(4)]
    some = list_of(many, some[1] + tuple(extra), some[2])
    given = tuple((name, chance.randrange(2)) for name in names if chance.randrange(2))
    return some, given, tuple(chance.randrange(3) for _ in range(many))


def is_refused(some, given):
    """Whether a net is given both bits, or a name is no net's."""
    bits = dict(given) | {"up": 1, "down": 0}
    named = {name for name, net in some[1]}
    if not {name for name, bit in given} <= named:
        return True
    pairs = {(net, bits[name]) for name, net in some[1] if name in bits}
    return len(pairs) > len({net for net, bit in pairs})
