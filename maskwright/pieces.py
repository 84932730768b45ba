"""The pieces of a region: what hangs together by sides."""

from maskwright.regions import joined


def touching(above, below):
    """The pairs of places in two rows, one right below the other, of stretches that touch."""
    pairs = []
    one = other = 0
    while one < len(above) and other < len(below):
        if above[one][0] < below[other][1] and below[other][0] < above[one][1]:
            pairs.append((one, other))
        if above[one][1] <= below[other][1]:
            one += 1
        else:
            other += 1
    return pairs


def root_of(roots, number):
    """The stretch that stands for all those that hang together with one."""
    while roots[number] != number:
        # Halving the way keeps later walks short.
        roots[number] = roots[roots[number]]
        number = roots[number]
    return number


def rooted(region):
    """For each stretch, numbered in order, one that stands for all that hang together with it."""
    roots = list(range(sum([len(row) for y0, y1, row in region])))
    first = 0
    for ahead, here in zip(region, region[1:]):
        next_first = first + len(ahead[2])
        if ahead[1] == here[0]:
            for one, other in touching(ahead[2], here[2]):
                root = root_of(roots, first + one)
                roots[root_of(roots, next_first + other)] = root
        first = next_first
    return [root_of(roots, number) for number in range(len(roots))]


def numbered(region):
    """For each band a list with the numbers of its stretches' pieces, by the pieces' first places."""
    roots = rooted(region)
    # Pieces come up here by their first stretches, and these are in the order of first places.
    numbers = {}
    rows = []
    first = 0
    for y0, y1, row in region:
        rows.append([numbers.setdefault(root, len(numbers)) for root in roots[first:first + len(row)]])
        first += len(row)
    return rows


def pieces(region):
    """The pieces of a region, by their first places."""
    bands = {}
    for (y0, y1, row), numbers in zip(region, numbered(region)):
        parts = {}
        for stretch, number in zip(row, numbers):
            parts.setdefault(number, []).append(stretch)
        for number in parts:
            bands.setdefault(number, []).append((y0, y1, tuple(parts[number])))
    return [joined(bands[number]) for number in bands]
