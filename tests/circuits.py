"""Lists of switches for tests: by chance, renumbered, chains, rings, and other shapes that many tests need."""

import random


def list_of(many, names, switches):
    """A list of names and switches in any order, their ends in any order."""
    names = sorted(set(names))
    switches = sorted((sort, gate, *sorted((one, other)), *size) for sort, gate, one, other, *size in switches)
    return (many, tuple(names), tuple(switches))


def renamed(some, new):
    """A list with its nets numbered otherwise: net k becomes new[k]."""
    many, names, switches = some
    names = [(name, new[net]) for name, net in names]
    return list_of(many, names, [
        (sort, new[gate], new[one], new[other], *size) for sort, gate, one, other, *size in switches
    ])


def shuffled(many, seed):
    """The numbers below many in an order by chance."""
    order = list(range(many))
    random.Random(seed).shuffle(order)
    return order


def some_list(seed, many=8, switches=10, names="", sizes=(1, 2)):
    """A list by chance, the same for each seed; each of the names is put on a net."""
    chance = random.Random(seed)
    named = [(name, chance.randrange(many)) for name in names]
    rows = [
        (chance.choice("np"), chance.randrange(many), chance.randrange(many), chance.randrange(many),
         chance.choice(sizes), chance.choice(sizes))
        for _ in range(switches)
    ]
    return list_of(many, named, rows)
