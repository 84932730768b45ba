"""Two regions put together, and how great one is."""

from maskwright.regions import joined, paired, parts_in

# A place counts 1 where the first region has it, and 2 where the second one has it.
IN_ONE = 1
IN_OTHER = 2
IN_BOTH = 3


def row_mixed(one, other, kept):
    """The stretches of the places whose count by two rows of stretches is a kept one."""
    steps = {}
    for row, worth in ((one, IN_ONE), (other, IN_OTHER)):
        for x0, x1 in row:
            steps[x0] = steps.get(x0, 0) + worth
            steps[x1] = steps.get(x1, 0) - worth
    edges = []
    count = 0
    for x in sorted(steps):
        ahead = count in kept
        count += steps[x]
        if (count in kept) != ahead:
            edges.append(x)
    return paired(edges)


def rows_at(region, cuts):
    """The stretches of a region in the row of places at each cut; the cuts are rising."""
    rows = []
    at = 0
    for y in cuts:
        while at < len(region) and region[at][1] <= y:
            at += 1
        inside = at < len(region) and region[at][0] <= y
        rows.append(region[at][2] if inside else ())
    return rows


def mixed(one, other, kept):
    """The region of the places whose count by two regions is a kept one."""
    cuts = sorted({y for band in one + other for y in band[:2]})
    bands = []
    for y0, y1, left, right in zip(cuts, cuts[1:], rows_at(one, cuts), rows_at(other, cuts)):
        bands.append((y0, y1, row_mixed(left, right, kept)))
    return joined(bands)


def both(one, other):
    """The region of the places that both regions have."""
    return mixed(one, other, (IN_BOTH,))


def either(one, other):
    """The region of the places that one region or the other has, or both."""
    return mixed(one, other, (IN_ONE, IN_OTHER, IN_BOTH))


def less(one, other):
    """The region of the places that the first region has and the second one has not."""
    return mixed(one, other, (IN_ONE,))


def row_long(row):
    """How many places a row of stretches has."""
    return sum([x1 - x0 for x0, x1 in row])


def area(region):
    """How many places a region has."""
    return sum([(y1 - y0) * row_long(row) for y0, y1, row in region])


def area_in(region, rect):
    """How many places of a rectangle a region has."""
    left, low, right, high = rect
    total = 0
    for band, stretch in parts_in(region, rect):
        y0, y1, row = region[band]
        x0, x1 = row[stretch]
        total += (min(x1, right) - max(x0, left)) * (min(y1, high) - max(y0, low))
    return total


def fills(region, rect):
    """Whether a region has all places of a rectangle."""
    x0, y0, x1, y1 = rect
    return area_in(region, rect) == (x1 - x0) * (y1 - y0)


def rim(region):
    """How many sides there are between a place that a region has and one that it has not."""
    sides = 0
    last_row = ()
    last_end = 0
    for y0, y1, row in region:
        if y0 != last_end:
            sides += row_long(last_row)
            last_row = ()
        sides += row_long(row_mixed(last_row, row, (IN_ONE, IN_OTHER)))
        sides += 2 * len(row) * (y1 - y0)
        last_row = row
        last_end = y1
    return sides + row_long(last_row)
