"""A looker at papers: whether a thing shows that two lists are one, or that they are two."""

from maskwright.alike import (
    are_parted, first_marks, is_as_great, marks_on, nets_alike, rounds_to_part, sides_of, with_name,
)
from maskwright.kinds import is_tuple_of, is_whole


def leads(one, other, renaming):
    """Whether a renaming leads a list into another one."""
    names = [(name, renaming[net]) for name, net in one[1]]
    switches = []
    for sort, gate, low, high, width, length in one[2]:
        ends = sorted([renaming[low], renaming[high]])
        switches.append((sort, renaming[gate], ends[0], ends[1], width, length))
    return tuple(sorted(names)) == other[1] and tuple(sorted(switches)) == other[2]


def is_renaming(one, other, thing):
    """Whether a thing is a renaming of two lists."""
    if not is_tuple_of(thing, one[0]) or not all([is_whole(net) for net in thing]):
        return False
    return sorted(thing) == list(range(other[0]))


def is_marks(thing, rounds):
    """Whether a thing is the paper of so many rounds."""
    return is_tuple_of(thing, 2) and is_whole(thing[1]) and thing == ("marks", rounds)


def is_tries(thing, net, many):
    """Whether a thing may be the paper of a net's tries with so many others, the papers within it left aside."""
    if not is_tuple_of(thing, 3) or not is_whole(thing[1]):
        return False
    return thing[:2] == ("tries", net) and is_tuple_of(thing[2], many)


def is_try(sides, told, nets, thing):
    """Whether a thing is the paper that parts two lists when a net of each is given one name more."""
    net, other_net = nets
    rounds = rounds_to_part(told, net, other_net)
    if rounds is not None:
        return is_marks(thing, rounds)
    return is_parting(sides, marks_on(sides, with_name(told[0], net, other_net)), thing)


def is_parting(sides, told, thing):
    """Whether a thing is the paper that parts two lists by their marks round by round."""
    last = told[-1]
    if are_parted(last):
        return is_marks(thing, len(told) - 1)
    alike = nets_alike(last[0])
    if not alike or not is_tries(thing, alike[0], len(last[1])):
        return False
    # Paper by paper, so that what is none is told at the first one that is wrong.
    for net, paper in enumerate(thing[2]):
        if not is_try(sides, told, (alike[0], net), paper):
            return False
    return True


def looked(one, other, thing):
    """Whether any thing is a paper of two lists."""
    if not is_tuple_of(thing, 2):
        return False
    word, inner = thing
    if word == "one":
        return is_renaming(one, other, inner) and leads(one, other, inner)
    if word != "two":
        return False
    if not is_as_great(one, other):
        return is_marks(inner, 0)
    sides = sides_of(one, other)
    return is_parting(sides, marks_on(sides, first_marks(one, other)), inner)
