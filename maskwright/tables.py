"""What a list does in each setting of its ins, and through givens one behind another."""

from maskwright.errors import NoGiven
from maskwright.formulas import bit_at, settings_of
from maskwright.ways import deciding
from maskwright.worths import driven_by, settled


def first_net(some, name):
    """The first net of a list with a name."""
    found = [net for own, net in some[1] if own == name]
    if not found:
        raise NoGiven("the name of the out is no net's")
    return found[0]


def given_in(ins, setting):
    """What a setting gives to the ins."""
    return tuple([(name, bit_at(setting, place)) for place, name in enumerate(ins)])


def outcome(some, given, net):
    """What becomes of a net from worths that are all 0: its worth, "open" or "ring"."""
    told = settled(some, given, (0,) * some[0])
    if told[0] == "ring":
        return "ring"
    worths = told[1]
    driven = driven_by(some, given)
    if net not in driven and not deciding(some, driven, worths, net):
        return "open"
    return worths[net]


def check_givens(some, givens):
    """Refuse givens of which one can't be given; this comes ahead of what rounds tell of any of them."""
    for given in givens:
        driven_by(some, given)


def table(some, ins, out):
    """The table of a list by ins and the name of an out."""
    net = first_net(some, out)
    givens = [given_in(ins, setting) for setting in settings_of(ins)]
    check_givens(some, givens)
    return tuple([outcome(some, given, net) for given in givens])


def played(some, givens):
    """What a list settles to by givens one behind another, from worths that are all 0: a list."""
    check_givens(some, givens)
    told = []
    worths = (0,) * some[0]
    for given in givens:
        told.append(settled(some, given, worths))
        word, behind = told[-1][:2]
        worths = behind if word == "rest" else behind[0]
    return told
