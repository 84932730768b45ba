"""Formulas for tests: by chance, chains, spoilt ones, and what they say by Python's own words."""

import itertools
import random


def var(name):
    return ("in", name)


A, B, C, D, E, F, G = (var(name) for name in "abcdefg")


def truth(formula, values):
    """What a formula says of names' truths."""
    word, *parts = formula
    if word == "in":
        return values[parts[0]]
    if word == "not":
        return not truth(parts[0], values)
    truths = [truth(part, values) for part in parts]
    return all(truths) if word == "and" else any(truths)


def truths_in(formula, ins):
    """A formula's bits in all settings, the first name's bit changing fastest."""
    told = []
    for row in itertools.product((0, 1), repeat=len(ins)):
        values = dict(zip(ins, row[::-1]))
        told.append(1 if truth(formula, {name: bool(bit) for name, bit in values.items()}) else 0)
    return told


def deep_of(formula):
    """How deep a formula is."""
    return 1 + max((deep_of(part) for part in formula[1:] if isinstance(part, tuple)), default=0)


def all_names(formula):
    """The names of a formula, sorted."""
    if formula[0] == "in":
        return [formula[1]]
    return sorted({name for part in formula[1:] for name in all_names(part)})


def some_formula(seed, deep=6, names="abcdef"):
    """A formula by chance, at most so deep, the same for each seed."""
    chance = random.Random(seed)

    def grow(room):
        word = chance.choice(("in", "not", "and", "or", "and", "or"))
        if room == 1 or word == "in":
            return ("in", chance.choice(names))
        if word == "not":
            return ("not", grow(room - 1))
        return (word, grow(room - 1), grow(room - 1))

    return grow(chance.randrange(1, deep + 1))


def nots(many, formula=A):
    """A formula within so many nots."""
    for _ in range(many):
        formula = ("not", formula)
    return formula


def chained(word, names, right=True):
    """A formula of one word over all names, growing at its right or left side."""
    formula = ("in", names[0])
    for name in names[1:]:
        formula = (word, ("in", name), formula) if right else (word, formula, ("in", name))
    return formula


def small_formulas(deep, names):
    """All formulas at most so deep over some names."""
    told = [("in", name) for name in names]
    for _ in range(deep - 1):
        grown = [("in", name) for name in names] + [("not", part) for part in told]
        told = grown + [(word, one, other) for word in ("and", "or") for one in told for other in told]
    return told


def spots(thing, path=()):
    """The paths to all things within a thing, itself too."""
    yield path
    if isinstance(thing, tuple):
        for at, part in enumerate(thing):
            yield from spots(part, path + (at,))


def thing_at(thing, path):
    for at in path:
        thing = thing[at]
    return thing


def with_thing(thing, path, new):
    """A thing with another one put at a path."""
    if not path:
        return new
    at = path[0]
    return thing[:at] + (with_thing(thing[at], path[1:], new),) + thing[at + 1:]
