"""Turns: quarters about the point (0, 0), and mirroring ahead of them."""

from maskwright.regions import rects_of, stacked

# A turn's two lower bits count its quarters, the bit above them says that it mirrors first.
QUARTERS = 3
MIRROR = 4


def turned_rect(rect, turn, dx, dy):
    """A rectangle turned and then moved."""
    x0, y0, x1, y1 = rect
    if turn & MIRROR:
        x0, x1 = -x1, -x0
    for quarter in range(turn & QUARTERS):
        x0, y0, x1, y1 = -y1, x0, -y0, x1
    return (x0 + dx, y0 + dy, x1 + dx, y1 + dy)


def turned(region, turn, dx, dy):
    """A region turned and then moved."""
    rects = [turned_rect(rect, turn, dx, dy) for rect in rects_of(region)]
    return stacked([(y0, y1, ((x0, x1),)) for x0, y0, x1, y1 in rects])


def after(one, other):
    """The turn that does one turn and then another one."""
    quarters = one & QUARTERS
    # A mirror behind quarters does what the quarters the other way round do behind a mirror.
    if other & MIRROR:
        quarters = -quarters
    return ((one ^ other) & MIRROR) + ((other + quarters) & QUARTERS)


def back(turn):
    """The turn that leads back; one that mirrors is its own."""
    if turn & MIRROR:
        return turn
    return -turn & QUARTERS
