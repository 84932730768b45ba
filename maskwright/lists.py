"""Lists of switches between nets: told apart from other things, put together, thinned."""

from maskwright.kinds import is_name, is_tuple_of, is_tuple_to, is_whole_from

MOST = 40
FAR = 2 ** 21


def is_named(thing, many):
    """Whether a thing is a name with one of so many nets."""
    return is_tuple_of(thing, 2) and is_name(thing[0]) and is_whole_from(thing[1], 0, many - 1)


def is_switch(thing, many):
    """Whether a thing is a switch between so many nets."""
    if not is_tuple_of(thing, 6) or thing[0] not in ("n", "p"):
        return False
    if not all([is_whole_from(net, 0, many - 1) for net in thing[1:4]]) or thing[2] > thing[3]:
        return False
    return all([is_whole_from(number, 1, FAR) for number in thing[4:]])


def is_list(thing):
    """Whether any thing is a list of at most forty nets, names and switches."""
    if not is_tuple_of(thing, 3) or not is_whole_from(thing[0], 0, MOST):
        return False
    many, names, switches = thing
    if not is_tuple_to(names, MOST) or not all([is_named(name, many) for name in names]):
        return False
    if not is_tuple_to(switches, MOST) or not all([is_switch(switch, many) for switch in switches]):
        return False
    if not all([ahead < here for ahead, here in zip(names, names[1:])]):
        return False
    return all([ahead <= here for ahead, here in zip(switches, switches[1:])])


def put_together(lists):
    """The list of the nets of lists, those of each behind those of the ones ahead."""
    first = 0
    names = []
    switches = []
    for many, own_names, own_switches in lists:
        names += [(name, net + first) for name, net in own_names]
        for sort, gate, one, other, width, length in own_switches:
            switches.append((sort, gate + first, one + first, other + first, width, length))
        first += many
    return (first, tuple(sorted(names)), tuple(sorted(switches)))


def next_alike(switches):
    """For each switch's number that of the next one that is alike but for its width, where there is one."""
    following = {}
    last = {}
    for number, (sort, gate, one, other, width, length) in enumerate(switches):
        key = (sort, gate, one, other, length)
        if key in last:
            following[last[key]] = number
        last[key] = number
    return following


def inner_nets(names, switches):
    """The nets without names that are no gates and ends of two switches alone: net to the two numbers."""
    ends = {}
    barred = {net: True for name, net in names}
    for number, switch in enumerate(switches):
        barred[switch[1]] = True
        for net in switch[2:4]:
            ends.setdefault(net, []).append(number)
    return {net: ends[net] for net in ends if len(ends[net]) == 2 and net not in barred}


def are_in_row(one, other):
    """Whether the two switches of an inner net may become one behind another."""
    # An inner net is one end of each of two; where it is both ends of one switch, that stands here twice.
    return one[:2] == other[:2] and one[4] == other[4] and one[2:4] != other[2:4]


def next_in_row(names, switches):
    """For each switch's number those of later ones with which it can become one behind another."""
    following = {}
    for low, high in inner_nets(names, switches).values():
        if are_in_row(switches[low], switches[high]):
            following.setdefault(low, []).append(high)
    return following


def next_pair(names, switches):
    """The numbers of the two switches that are made one next, or None."""
    alike = next_alike(switches)
    in_row = next_in_row(names, switches)
    for number in range(len(switches)):
        found = in_row.get(number, []) + ([alike[number]] if number in alike else [])
        if found:
            return (number, min(found))
    return None


def made_one(one, other):
    """The one switch that two become, side by side or one behind another."""
    if one[2:4] == other[2:4]:
        return one[:4] + (one[4] + other[4], one[5])
    ends = sorted({one[2], one[3]} ^ {other[2], other[3]})
    return one[:2] + (ends[0], ends[1], one[4], one[5] + other[5])


def thinned(some):
    """A list whose switches side by side, or one behind another, are made one till none can be."""
    many, names, switches = some
    pair = next_pair(names, switches)
    while pair is not None:
        low, high = pair
        kept = switches[:low] + switches[low + 1:high] + switches[high + 1:]
        switches = tuple(sorted(kept + (made_one(switches[low], switches[high]),)))
        pair = next_pair(names, switches)
    return (many, names, switches)
