"""A sheet drawn of a list, its pairs and a row of them, by the rules of the house.

Upright wires stand side by side, a slot each, all over the drawing's height. Below lies a wire for each net, across
all slots; above it stand the switches: each gate over its n and its p ground, in a slot of its own, and the ends of
both between the gates. A contact joins the upright wire of a slot with the wire of its net, another one with the
gate or the ground to which it belongs.
"""

from maskwright.houses import LAYERS
from maskwright.making import LENGTH, WIDTH
from maskwright.regions import region
from maskwright.rows import sides_of
from maskwright.sheets import sorted_marks

# From a slot to the next one: what stands there is 2 wide, as a gate is, and 2 apart.
SLOT = 4

# A contact, the wire that it needs all around, and that wire alone or across all slots; from such a wire to the next.
CONTACT = 2
RIM = 1
PAD = 4
STEP = 6

# The pads on the grounds lie in their middle; gates lead beyond both.
INSET = 1
GROUNDS_APART = 4
BEYOND = 2


def upright_slots(some, pairs, row):
    """The slots of a row from left to right, and the runs of ground: two lists.

    A slot is a tuple of what stands there, "n", "p" or "g", and its net; a run one of its first and its last slot.
    """
    slots = []
    runs = []
    right = None
    for place in row:
        left, far = sides_of(some, pairs, place)
        if left != right:
            slots += list(zip("np", left))
            runs.append((len(slots) - 2, len(slots) - 1))
        n_switch = some[2][pairs[place[0]][0]]
        slots += [("g", n_switch[1])] + list(zip("np", far))
        runs[-1] = (runs[-1][0], len(slots) - 1)
        right = far
    return (slots, runs)


def heights(many):
    """The y at which the pads of each sort of slot begin, above the wires of so many nets, and the top of all."""
    gates = many * STEP
    n_pads = gates + STEP + INSET
    p_pads = n_pads + WIDTH + GROUNDS_APART
    return {"g": gates, "n": n_pads, "p": p_pads, "top": p_pads - INSET + WIDTH + BEYOND}


def contact_at(slot, y):
    """The contact of a slot on a wire that begins at a y."""
    x = slot * SLOT
    return ("k", x, y + RIM, x + CONTACT, y + RIM + CONTACT)


def slot_rects(slot, sort, net, tall):
    """The rects of a slot: its upright wire, its pad, its contacts with the pad and its net's wire; a gate, too."""
    x = slot * SLOT
    y = tall[sort]
    pad = ("w", x - RIM, y, x - RIM + PAD, y + PAD)
    rects = [("v", x, 0, x + LENGTH, tall["top"]), pad, contact_at(slot, y), contact_at(slot, net * STEP)]
    if sort == "g":
        rects.append(("g", x, y, x + LENGTH, tall["top"]))
    return rects


def ground_rects(run, tall):
    """The n and the p ground of a run of slots."""
    first, last = run
    x0, x1 = first * SLOT, last * SLOT + LENGTH
    return [(sort, x0, tall[sort] - INSET, x1, tall[sort] - INSET + WIDTH) for sort in ("n", "p")]


def rects_drawn(some, pairs, row):
    """The rects of what is drawn."""
    slots, runs = upright_slots(some, pairs, row)
    tall = heights(some[0])
    right = (len(slots) - 1) * SLOT + CONTACT + RIM
    rects = [("w", -RIM, net * STEP, right, net * STEP + PAD) for net in range(some[0])]
    for slot, (sort, net) in enumerate(slots):
        rects += slot_rects(slot, sort, net, tall)
    for run in runs:
        rects += ground_rects(run, tall)
    return rects


def drawn(some, pairs, row):
    """A sheet of a list, pairs and a row, whose own list is the same but for its nets' numbers."""
    rects = rects_drawn(some, pairs, row)
    regions = [region([rect[1:] for rect in rects if rect[0] == layer]) for layer in LAYERS]
    marks = [(name, "w", 0, net * STEP) for name, net in some[1]]
    return (tuple(regions), sorted_marks(marks))
