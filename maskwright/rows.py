"""Rows of pairs of switches, with as few cuts between neighbours as can be."""

TURNINGS = ((0, 0), (0, 1), (1, 0), (1, 1))


def ends_of(switch, turning):
    """The nets at the left and at the right end of a switch in a row."""
    one, other = switch[2:4]
    return (one, other) if turning == 0 else (other, one)


def sides_of(some, pairs, place):
    """The nets at the left and at the right side of a place of a row, each a tuple of the n and the p switch's."""
    pair, a, b = place
    i, j = pairs[pair]
    n_ends = ends_of(some[2][i], a)
    p_ends = ends_of(some[2][j], b)
    return ((n_ends[0], p_ends[0]), (n_ends[1], p_ends[1]))


def cuts_of(some, pairs, row):
    """How many cuts a row has."""
    sides = [sides_of(some, pairs, place) for place in row]
    return len([here for ahead, here in zip(sides, sides[1:]) if ahead[1] != here[0]])


def places_behind(pairs, row):
    """The places by which a row may go on."""
    used = {place[0]: True for place in row}
    return [(pair, a, b) for pair in range(len(pairs)) if pair not in used for a, b in TURNINGS]


def longer_rows(some, pairs, best):
    """The best rows with a place more, by which pairs are in them and the nets at their right sides.

    Of a row it matters no more how it began: what is put behind it adds the same cuts to each of these.
    """
    longer = {}
    for cuts, row in best.values():
        right = sides_of(some, pairs, row[-1])[1] if row else None
        for place in places_behind(pairs, row):
            left, far = sides_of(some, pairs, place)
            more = 1 if row and left != right else 0
            key = (tuple(sorted([own[0] for own in row + (place,)])), far)
            if key not in longer or cuts + more < longer[key][0]:
                longer[key] = (cuts + more, row + (place,))
    return longer


def least_row(some, pairs):
    """A row with as few cuts as any, and how many these are: a tuple (cuts, row)."""
    best = {None: (0, ())}
    for step in range(len(pairs)):
        best = longer_rows(some, pairs, best)
    return min(best.values())
