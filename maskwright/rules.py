"""Rules that sheets keep, or else the first place that breaks one."""

from maskwright.growing import frame, grown, shrunk, spread
from maskwright.houses import LAYERS
from maskwright.mixing import both, fills, less
from maskwright.pieces import pieces
from maskwright.regions import first_place, has, only_rect, rects_of, region, rows_behind, stacked


def distance(place, rect):
    """How far a place is from the nearest place of a rectangle."""
    x, y = place
    x0, y0, x1, y1 = rect
    return max(x0 - x, x - x1 + 1, y0 - y, y - y1 + 1, 0)


def near_break(place, rects, k):
    """The break at a place whose gap to the places of rectangles should be at least k."""
    least = min([distance(place, rect) for rect in rects])
    return (place[0], place[1], k + 1 - least)


def in_squares(some, side):
    """The region of the places that lie in a square of so many places' side, all of them a region's."""
    if not some:
        return ()
    lacking = less(frame(some, side), some)
    corners = less(some, spread(lacking, side - 1, 0))
    return spread(corners, 0, side - 1)


def greatest_side(some, place):
    """The side of the greatest square of a region's places in which one of them lies."""
    x, y = place
    side = 1
    while has(in_squares(some, side + 1), x, y):
        side += 1
    return side


def width_break(some, k):
    """The break of a region that should have a square of side k around each place."""
    place = first_place(less(some, in_squares(some, k)))
    if place is None:
        return None
    x, y = place
    # No square of a side below k that has this place leads beyond these places.
    around = both(some, region([(x - k, y - k, x + k, y + k)]))
    return (x, y, k - greatest_side(around, place))


def apart_break(one, other, k):
    """The break of two regions that should have a gap of k."""
    place = first_place(both(one, grown(other, k)))
    if place is None:
        return None
    return near_break(place, rects_of(other), k)


def pieces_break(some, k):
    """The break of a region whose pieces should have gaps of k."""
    found = pieces(some)
    # Each place is near its own piece; it breaks the rule where it is near a second one.
    near_two = stacked([band for piece in found for band in grown(piece, k)], 2)
    place = first_place(both(some, near_two))
    if place is None:
        return None
    others = [piece for piece in found if not has(piece, place[0], place[1])]
    return near_break(place, [rect for piece in others for rect in rects_of(piece)], k)


def within_break(one, other, k):
    """The break of a region whose places should have those of another one k places all around."""
    place = first_place(less(one, shrunk(other, k)))
    if place is None:
        return None
    x, y = place
    lacking = less(region([(x - k, y - k, x + k + 1, y + k + 1)]), other)
    return near_break(place, rects_of(lacking), k)


def is_crossing(alone, rect, k):
    """Whether one of two regions leads k places out of a rectangle to two sides, the other one to the other two."""
    upright, lying = rows_behind(rect, k)
    for one, other in (alone, alone[::-1]):
        if all([fills(one, row) for row in upright]) and all([fills(other, row) for row in lying]):
            return True
    return False


def cross_lack(alone, piece, k):
    """How much a piece that two regions have both lacks of a crossing by k; 0 where nothing lacks."""
    rect = only_rect(piece)
    if rect is None:
        return k + 1
    lack = 0
    while not is_crossing(alone, rect, k - lack):
        lack += 1
    return lack


def cross_break(one, other, k):
    """The break of two regions that should cross wherever both have places."""
    alone = (less(one, other), less(other, one))
    for piece in pieces(both(one, other)):
        lack = cross_lack(alone, piece, k)
        if lack > 0:
            x, y = first_place(piece)
            return (x, y, lack)
    return None


def break_of(sheet, rule):
    """The break of a rule in a sheet: a tuple (x, y, lacks), or None."""
    regions = dict(zip(LAYERS, sheet[0]))
    if rule[0] == "width":
        return width_break(regions[rule[1]], rule[2])
    sort, a, b, k = rule
    if sort == "within":
        return within_break(regions[a], regions[b], k)
    if sort == "cross":
        return cross_break(regions[a], regions[b], k)
    if a == b:
        return pieces_break(regions[a], k)
    return apart_break(regions[a], regions[b], k)


def breaks(sheet, rules):
    """The breaks of rules in a sheet, each with its rule's number: a list of tuples (number, x, y, lacks)."""
    told = []
    for number, rule in enumerate(rules):
        found = break_of(sheet, rule)
        if found is not None:
            told.append((number,) + found)
    return told


def house_rules():
    """The rules of the house."""
    widths = [("width", layer, 2) for layer in LAYERS]
    gaps = [("apart", layer, layer, 2) for layer in LAYERS]
    others = [("apart", "n", "p", 4), ("within", "k", "w", 1), ("cross", "g", "n", 2), ("cross", "g", "p", 2)]
    return tuple(widths + gaps + others)
