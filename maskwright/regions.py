"""Regions: sets of places, each told by just one tuple of bands."""

from maskwright.kinds import is_tuple_of, is_whole_from

FAR = 2 ** 21


def is_span(low, high):
    """Whether two things are whole numbers within a region's bounds, the first one the lesser."""
    return is_whole_from(low, -FAR, FAR) and is_whole_from(high, -FAR, FAR) and low < high


def is_stretch(thing):
    """Whether a thing is a stretch of a band."""
    return is_tuple_of(thing, 2) and is_span(thing[0], thing[1])


def are_stretches(thing):
    """Whether a thing is a tuple of one or more stretches, with a gap between each two."""
    if not isinstance(thing, tuple) or len(thing) == 0:
        return False
    if not all([is_stretch(stretch) for stretch in thing]):
        return False
    return all([ahead[1] < here[0] for ahead, here in zip(thing, thing[1:])])


def is_band(thing):
    """Whether a thing is a band of a region."""
    return is_tuple_of(thing, 3) and is_span(thing[0], thing[1]) and are_stretches(thing[2])


def may_follow(ahead, here):
    """Whether a band may stand right behind another one."""
    if ahead[2] == here[2]:
        return ahead[1] < here[0]
    return ahead[1] <= here[0]


def is_region(thing):
    """Whether any thing is a region."""
    if not isinstance(thing, tuple) or not all([is_band(band) for band in thing]):
        return False
    return all([may_follow(ahead, here) for ahead, here in zip(thing, thing[1:])])


def joined(bands):
    """The region of bands in order, some perhaps without stretches, or going on as the one ahead."""
    kept = []
    for y0, y1, stretches in bands:
        if not stretches:
            continue
        if kept and kept[-1][1] == y0 and kept[-1][2] == stretches:
            kept[-1] = (kept[-1][0], y1, stretches)
        else:
            kept.append((y0, y1, stretches))
    return tuple(kept)


def paired(edges):
    """The stretches whose beginnings and ends are the edges, by turns."""
    return tuple(zip(edges[::2], edges[1::2]))


def add_steps(steps, stretches, more):
    """Count the stretches so many times more in steps: x to how many more begin there than end."""
    for x0, x1 in stretches:
        for x, change in ((x0, more), (x1, -more)):
            steps[x] = steps.get(x, 0) + change
            # Where one ends and another begins there is no edge, and rows stay short.
            if steps[x] == 0:
                del steps[x]


def covered(steps, least):
    """The stretches over which the steps, added up from the left, are at least so many."""
    edges = []
    deep = 0
    for x in sorted(steps):
        ahead = deep
        deep += steps[x]
        if (ahead < least) != (deep < least):
            edges.append(x)
    return paired(edges)


def stacked(bands, least=1):
    """The region of the places that at least so many bands have, in any order, over one another or not."""
    changes = {}
    for y0, y1, stretches in bands:
        changes.setdefault(y0, []).append((stretches, 1))
        changes.setdefault(y1, []).append((stretches, -1))
    cuts = sorted(changes)
    steps = {}
    rows = []
    for y in cuts:
        for stretches, more in changes[y]:
            add_steps(steps, stretches, more)
        rows.append(covered(steps, least))
    return joined(list(zip(cuts, cuts[1:], rows)))


def region(rects):
    """The region of the places of a list of rectangles."""
    return stacked([(y0, y1, ((x0, x1),)) for x0, y0, x1, y1 in rects])


def has(region, x, y):
    """Whether a region has a place."""
    for y0, y1, stretches in region:
        if y0 <= y < y1:
            return any([x0 <= x < x1 for x0, x1 in stretches])
    return False


def rects_of(region):
    """The rectangles of a region, one for each stretch of each band, in order."""
    return [(x0, y0, x1, y1) for y0, y1, stretches in region for x0, x1 in stretches]


def first_place(region):
    """The place of a region with the least y, of these the one with the least x, or None."""
    if not region:
        return None
    y0, y1, stretches = region[0]
    return (stretches[0][0], y0)


def only_rect(region):
    """The rectangle that a region is, or None where it is none."""
    rects = rects_of(region)
    return rects[0] if len(rects) == 1 else None


def rows_behind(rect, deep):
    """The rectangles of so many rows of places behind a rectangle's sides: the two pairs of opposite ones."""
    x0, y0, x1, y1 = rect
    upright = ((x0 - deep, y0, x0, y1), (x1, y0, x1 + deep, y1))
    lying = ((x0, y0 - deep, x1, y0), (x0, y1, x1, y1 + deep))
    return (upright, lying)


def first_behind(spans, at):
    """The number of the first one of rising bands, or of rising stretches, that ends behind a number."""
    low, high = 0, len(spans)
    while low < high:
        middle = (low + high) // 2
        if spans[middle][1] > at:
            high = middle
        else:
            low = middle + 1
    return low


def parts_in(region, rect):
    """The stretches of a region that have places in a rectangle: tuples of a band's and a stretch's number."""
    x0, y0, x1, y1 = rect
    parts = []
    band = first_behind(region, y0)
    while band < len(region) and region[band][0] < y1:
        row = region[band][2]
        stretch = first_behind(row, x0)
        while stretch < len(row) and row[stretch][0] < x1:
            parts.append((band, stretch))
            stretch += 1
        band += 1
    return parts
