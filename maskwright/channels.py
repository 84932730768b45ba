"""Channels: wires laid on as few tracks as can be, and a looker at that."""

from maskwright.errors import Ringed
from maskwright.kinds import is_tuple_of, is_whole, is_whole_from


def spans_of(above, below):
    """The wires that need tracks, rising, each with its first and its last column."""
    columns = {}
    for column, wires in enumerate(zip(above, below)):
        for wire in wires:
            if wire != 0:
                columns.setdefault(wire, []).append(column)
    return {wire: (columns[wire][0], columns[wire][-1]) for wire in sorted(columns) if len(set(columns[wire])) > 1}


def orders_of(above, below, spans):
    """For each wire that needs a track those that must lie above it."""
    uppers = {wire: [] for wire in spans}
    for high, low in zip(above, below):
        if high in spans and low in spans and high != low and high not in uppers[low]:
            uppers[low].append(high)
    return uppers


def ring_in(uppers):
    """A tuple of wires each of which must lie above the next one, the last one above the first, or None."""
    left = dict(uppers)
    free = list(left)
    while free:
        free = [wire for wire in left if not any([upper in left for upper in left[wire]])]
        for wire in free:
            del left[wire]
    if not left:
        return None
    # Each wire that is left has one above it that is left, too, so a walk upwards comes again to where it was.
    walk = [list(left)[0]]
    while walk[-1] not in walk[:-1]:
        walk.append([upper for upper in left[walk[-1]] if upper in left][0])
    ring = walk[walk.index(walk[-1]) + 1:]
    return tuple(ring[::-1])


def meet(one, other):
    """Whether two spans have a column in common."""
    return one[0] <= other[1] and other[0] <= one[1]


def fillings(spans, wires):
    """All ways to lay one or more of the wires on one track, as tuples of wires."""
    told = [()]
    for wire in wires:
        more = [own + (wire,) for own in told if not any([meet(spans[wire], spans[other]) for other in own])]
        told = told + more
    return told[1:]


def free_wires(uppers, laid):
    """The wires that are not laid yet and may be laid below those that are."""
    return [wire for wire in uppers if wire not in laid and all([upper in laid for upper in uppers[wire]])]


def fewest_tracks(spans, uppers):
    """A list of as few tracks as can be, from above, each a tuple of wires."""
    rows = {(): []}
    every = tuple(spans)
    while every not in rows:
        longer = {}
        for laid in rows:
            for filling in fillings(spans, free_wires(uppers, laid)):
                longer.setdefault(tuple(sorted(laid + filling)), rows[laid] + [filling])
        rows = longer
    return rows[every]


def thick_column(spans, many, wide):
    """The first one of so many columns that just so many wires span, or None."""
    for column in range(wide):
        if len([wire for wire in spans if meet(spans[wire], (column, column))]) == many:
            return column
    return None


def chain_to(uppers, wire, many):
    """A tuple of so many wires, the last one a given one, each of which must lie above the next one, or None."""
    if many == 1:
        return (wire,)
    for upper in uppers[wire]:
        ahead = chain_to(uppers, upper, many - 1)
        if ahead is not None:
            return ahead + (wire,)
    return None


def reason_for(spans, uppers, many, wide):
    """Why there are so many tracks in a channel of so many columns."""
    column = thick_column(spans, many, wide)
    if column is not None:
        return ("thick", column)
    for wire in uppers:
        chain = chain_to(uppers, wire, many)
        if chain is not None:
            return ("chain", chain)
    return ("all",)


def wired(above, below):
    """The wires of a channel on as few tracks as can be: a tuple (many, tracks, reason)."""
    spans = spans_of(above, below)
    uppers = orders_of(above, below, spans)
    ring = ring_in(uppers)
    if ring is not None:
        raise Ringed(ring)
    rows = fewest_tracks(spans, uppers)
    tracks = sorted([(wire, track) for track, row in enumerate(rows) for wire in row])
    return (len(rows), tuple(tracks), reason_for(spans, uppers, len(rows), len(above)))


def is_track(thing):
    """Whether a thing may be a wire with its track."""
    return is_tuple_of(thing, 2) and is_whole(thing[0]) and is_whole(thing[1])


def are_tracks(spans, uppers, many, thing):
    """Whether a thing is a tuple of the wires with tracks as they must lie, so many tracks, all of them used."""
    if not is_tuple_of(thing, len(spans)) or not all([is_track(entry) for entry in thing]):
        return False
    if [wire for wire, track in thing] != list(spans):
        return False
    track_of = dict(thing)
    if sorted({track for wire, track in thing}) != list(range(many)):
        return False
    for wire in spans:
        if not all([track_of[upper] < track_of[wire] for upper in uppers[wire]]):
            return False
    alike = [(one, other) for one in spans for other in spans if one < other and track_of[one] == track_of[other]]
    return not any([meet(spans[one], spans[other]) for one, other in alike])


def is_chain(uppers, many, thing):
    """Whether a thing is a tuple of so many wires, each of which must lie above the next one."""
    if not is_tuple_of(thing, many) or not all([is_whole(wire) and wire in uppers for wire in thing]):
        return False
    return all([high in uppers[low] for high, low in zip(thing, thing[1:])])


def is_reason(spans, uppers, many, wide, thing):
    """Whether a thing is a reason for so many tracks."""
    wanted = reason_for(spans, uppers, many, wide)
    if not is_tuple_of(thing, len(wanted)) or thing[0] != wanted[0]:
        return False
    if wanted[0] == "thick":
        return is_whole(thing[1]) and thing == wanted
    return wanted[0] == "all" or is_chain(uppers, many, thing[1])


def is_wired(above, below, thing):
    """Whether any thing is a tuple (many, tracks, reason) of a channel."""
    spans = spans_of(above, below)
    uppers = orders_of(above, below, spans)
    # No more tracks can be used than there are wires.
    if not is_tuple_of(thing, 3) or not is_whole_from(thing[0], 0, len(spans)):
        return False
    many, tracks, reason = thing
    # Where the orders ring, no tracks are so; so the reason is told of orders without a ring alone.
    return are_tracks(spans, uppers, many, tracks) and is_reason(spans, uppers, many, len(above), reason)
