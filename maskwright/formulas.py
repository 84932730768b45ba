"""Formulas of ins, not, and, or: told apart from other things, and their bits."""

from maskwright.kinds import is_name

DEEPEST = 6
MOST_NAMES = 6

# These name what a list always has, so no in is called so.
KEPT_NAMES = ("up", "down")


def is_in_name(thing):
    """Whether a thing is a name that an in may have."""
    return is_name(thing) and thing not in KEPT_NAMES


def is_shaped(thing, room):
    """Whether a thing is a formula at most so deep, however many names it has."""
    if room == 0 or not isinstance(thing, tuple) or len(thing) == 0:
        return False
    word, *parts = thing
    if word == "in":
        return len(parts) == 1 and is_in_name(parts[0])
    if word == "not":
        return len(parts) == 1 and is_shaped(parts[0], room - 1)
    if word != "and" and word != "or":
        return False
    return len(parts) == 2 and all([is_shaped(part, room - 1) for part in parts])


def ins_within(formula):
    """The names of a formula's ins, from left to right, each as often as it comes."""
    if formula[0] == "in":
        return [formula[1]]
    return [name for part in formula[1:] for name in ins_within(part)]


def names_of(formula):
    """The unlike names of a formula, rising."""
    return sorted(set(ins_within(formula)))


def is_formula(thing):
    """Whether any thing is a formula."""
    return is_shaped(thing, DEEPEST) and len(names_of(thing)) <= MOST_NAMES


def are_ins(thing):
    """Whether a thing is a tuple of one to six unlike names of ins, rising."""
    if not isinstance(thing, tuple) or not 1 <= len(thing) <= MOST_NAMES:
        return False
    if not all([is_in_name(name) for name in thing]):
        return False
    return all([ahead < here for ahead, here in zip(thing, thing[1:])])


def settings_of(ins):
    """The numbers of all settings of ins, a list."""
    return list(range(1 << len(ins)))


def bit_at(setting, place):
    """The bit that a setting gives to the name at a place of the ins."""
    return (setting >> place) & 1


def bit_of(formula, ins, setting):
    """The bit of a formula in a setting of ins."""
    word = formula[0]
    if word == "in":
        return bit_at(setting, ins.index(formula[1]))
    bits = [bit_of(part, ins, setting) for part in formula[1:]]
    if word == "not":
        return 1 - bits[0]
    return min(bits) if word == "and" else max(bits)


def bits_of(formula, ins):
    """The table of a formula: its bits in all settings of ins."""
    return tuple([bit_of(formula, ins, setting) for setting in settings_of(ins)])


def unlike_at(one, other, ins):
    """The first setting of ins in which two formulas have unlike bits, or None."""
    for setting in settings_of(ins):
        if bit_of(one, ins, setting) != bit_of(other, ins, setting):
            return setting
    return None
