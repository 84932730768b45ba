"""What a list does: the worths of its nets, round by round."""

from maskwright.errors import NoGiven, TooLong

ALWAYS = (("down", 0), ("up", 1))

CLASH = 2

MOST_ROUNDS = 200


def driven_by(some, given):
    """The nets that are given a worth, each with its bit; up and down are given always."""
    nets_of = {}
    for name, net in some[1]:
        nets_of.setdefault(name, []).append(net)
    if not all([name in nets_of for name, bit in given]):
        raise NoGiven("a given name is no net's")
    driven = {}
    for name, bit in ALWAYS + given:
        for net in nets_of.get(name, []):
            if driven.setdefault(net, bit) != bit:
                raise NoGiven("a net is given both bits")
    return driven


def add_link(links, number, one, other):
    """Keep a switch among the links of both its ends."""
    links.setdefault(one, []).append((number, other))
    links.setdefault(other, []).append((number, one))


def closed_links(some, driven, worths):
    """The closed switches of each net, as tuples (number, net at its other end): the strong ones, and all."""
    strong = {}
    every = {}
    for number, (sort, gate, one, other, width, length) in enumerate(some[2]):
        closing = 1 if sort == "n" else 0
        if driven.get(gate, worths[gate]) != closing:
            continue
        add_link(every, number, one, other)
        if length <= width:
            add_link(strong, number, one, other)
    return (strong, every)


def ways_from(links, driven, bit):
    """For each net that is not driven and to which ways come from nets driven with a bit, a shortest way's last step.

    A step is a tuple of the switch's number and the net ahead.
    """
    steps = {}
    todo = [net for net in driven if driven[net] == bit]
    done = 0
    while done < len(todo):
        here = todo[done]
        done += 1
        for number, far in links.get(here, []):
            if far not in driven and far not in steps:
                steps[far] = (number, here)
                todo.append(far)
    return steps


def ways_by_strength(some, driven, worths):
    """The steps of the ways from nets with 0 and from nets with 1: of the strong ways, then of all."""
    return [(ways_from(links, driven, 0), ways_from(links, driven, 1)) for links in closed_links(some, driven, worths)]


def new_worth(ways, net, worth):
    """What a net that is not driven has behind a round."""
    for low, high in ways:
        if net in low and net in high:
            return CLASH
        if net in low:
            return 0
        if net in high:
            return 1
    return worth


def one_round(some, driven, worths):
    """The worths behind a round, by what is driven."""
    ways = ways_by_strength(some, driven, worths)
    return tuple([driven[net] if net in driven else new_worth(ways, net, worth) for net, worth in enumerate(worths)])


def round_on(some, given, worths):
    """The worths of a list's nets behind a round more."""
    return one_round(some, driven_by(some, given), worths)


def settled(some, given, worths):
    """Where rounds lead to: ("rest", worths, rounds), or ("ring", row)."""
    driven = driven_by(some, given)
    row = [worths]
    seen = {worths: 0}
    for rounds in range(MOST_ROUNDS):
        following = one_round(some, driven, row[-1])
        if following == row[-1]:
            return ("rest", following, rounds)
        if following in seen:
            return ("ring", tuple(row[seen[following]:]))
        seen[following] = len(row)
        row.append(following)
    raise TooLong("neither a rest nor a ring is there when two hundred rounds are done")
