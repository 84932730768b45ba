"""The ways of closed switches that decide what a net has."""

from maskwright.kinds import is_tuple_of, is_whole
from maskwright.worths import closed_links, driven_by, ways_by_strength

STRENGTHS = ("strong", "weak")


def walked(steps, driven, net):
    """The way that steps lead to a net, as a tuple of the switches' numbers from a driven net on."""
    way = []
    here = net
    while here not in driven:
        number, here = steps[here]
        way.append(number)
    return tuple(way[::-1])


def deciding(some, driven, worths, net):
    """The ways that decide what a net has, by what is driven."""
    if net in driven:
        return []
    for strength, both_bits in zip(STRENGTHS, ways_by_strength(some, driven, worths)):
        told = []
        for bit, steps in enumerate(both_bits):
            if net in steps:
                told.append((bit, strength, walked(steps, driven, net)))
        if told:
            return told
    return []


def ways(some, given, worths, net):
    """The ways that decide what a net has: a list of tuples (bit, strength, way)."""
    return deciding(some, driven_by(some, given), worths, net)


def leads_to(links, driven, bit, way):
    """The nets that are not driven to which a tuple of closed switches' numbers leads from nets driven with a bit."""
    here = {net: True for net in driven if driven[net] == bit}
    for number in way:
        there = {}
        for net in here:
            for linked, far in links.get(net, []):
                if linked == number and far not in driven:
                    there[far] = True
        here = there
    return here


def is_like(thing, told, links, driven, net):
    """Whether a thing is a way to a net, with its bit and strength, that might be told in another one's place."""
    bit, strength, way = told
    if not is_tuple_of(thing, 3) or not is_whole(thing[0]) or thing[:2] != (bit, strength):
        return False
    if not is_tuple_of(thing[2], len(way)) or not all([is_whole(number) for number in thing[2]]):
        return False
    return net in leads_to(links, driven, bit, thing[2])


def are_ways(some, given, worths, net, thing):
    """Whether any thing is a list of the ways that decide what a net has."""
    driven = driven_by(some, given)
    told = deciding(some, driven, worths, net)
    if not isinstance(thing, list) or len(thing) != len(told):
        return False
    links_by_strength = dict(zip(STRENGTHS, closed_links(some, driven, worths)))
    for entry, own in zip(thing, told):
        if not is_like(entry, own, links_by_strength[own[1]], driven, net):
            return False
    return True
