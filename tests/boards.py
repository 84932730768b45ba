"""Small boards, on which tests count place by place, and things that are no good anywhere."""

import random


def places_of(region):
    """The set of a region's places, read off its bands as point 5 tells them."""
    return {(x, y) for y0, y1, row in region for x0, x1 in row for y in range(y0, y1) for x in range(x0, x1)}


def places_of_rects(rects):
    """The set of the places of rectangles, as point 4 tells them."""
    return {(x, y) for x0, y0, x1, y1 in rects for y in range(y0, y1) for x in range(x0, x1)}


def row_of_xs(xs):
    """The stretches of a set of xs, x by x."""
    row = []
    for x in sorted(xs):
        if row and row[-1][1] == x:
            row[-1] = (row[-1][0], x + 1)
        else:
            row.append((x, x + 1))
    return tuple(row)


def region_of(places):
    """The one region of a set of places, row by row, by another way than the package's."""
    bands = []
    for y in sorted({y for x, y in places}):
        row = row_of_xs({x for x, at in places if at == y})
        if bands and bands[-1][1] == y and bands[-1][2] == row:
            bands[-1] = (bands[-1][0], y + 1, row)
        else:
            bands.append((y, y + 1, row))
    return tuple(bands)


def board(*rows):
    """The region of the signs # of rows of text, the first row being y = 0."""
    return region_of({(x, y) for y, row in enumerate(rows) for x, sign in enumerate(row) if sign == "#"})


def some_places(seed, wide=9, tall=8, percent=55):
    """Places by chance, the same for each seed; from -3 on, so that signs matter."""
    chance = random.Random(seed)
    cells = [(x - 3, y - 3) for y in range(tall) for x in range(wide)]
    return {place for place in cells if chance.randrange(100) < percent}


def some_regions(many, percent=55):
    """Regions of small boards by chance, the same each time."""
    return [region_of(some_places(seed, percent=percent)) for seed in range(many)]


def some_rects(seed, many, far=12):
    """Rectangles by chance, the same for each seed."""
    chance = random.Random(seed)
    rects = []
    for _ in range(many):
        x0, y0 = chance.randrange(-far, far), chance.randrange(-far, far)
        rects.append((x0, y0, x0 + chance.randrange(1, 6), y0 + chance.randrange(1, 6)))
    return rects


def near(place, k):
    """All places at most k from a place, as point 8 tells it."""
    x, y = place
    return {(x + dx, y + dy) for dx in range(-k, k + 1) for dy in range(-k, k + 1)}


def within(thing, deep):
    """A thing so deep within tuples."""
    for _ in range(deep):
        thing = (thing,)
    return thing


def odd_things():
    """Things that are neither regions nor houses nor names."""
    return [
        None, True, False, 0, 1, -7, 10 ** 39, "", "a", "region", "((0, 1, ((0, 1),)),)", [], [()], [[]],
        ((),), (((),),), (None,), (True,), (0,), ("",), ("abc",), ("abcd",), (1, 2, 3), (1, 2, 3, 4),
        ([],), within(0, 7), within((), 7), within("ab", 7), [within([], 6)], ((0, 1), (2, 3)), (0, 1, ((0, 1),)),
        tuple(range(2999)), [0] * 2999, "x" * 3000,
    ]


def turned_place(place, turn, dx, dy):
    """A place turned and then moved, step by step by point 10's two examples."""
    x, y = place
    if turn >= 4:
        x, y = -x - 1, y
    for _ in range(turn % 4):
        x, y = -y - 1, x
    return (x + dx, y + dy)


def reached(places, start):
    """The places to which touching ones lead from a start, place by place."""
    found, todo = {start}, [start]
    while todo:
        x, y = todo.pop()
        for spot in ((x + 1, y), (x - 1, y), (x, y + 1), (x, y - 1)):
            if spot in places and spot not in found:
                found.add(spot)
                todo.append(spot)
    return found


def pieces_by_places(places):
    """The pieces of a set of places, by their first places: a list of sets."""
    told, left = [], set(places)
    for y, x in sorted((y, x) for x, y in places):
        if (x, y) in left:
            piece = reached(places, (x, y))
            left -= piece
            told.append(piece)
    return told


def by_order(places):
    """Places in their order: by y, then x."""
    return sorted(places, key=lambda place: (place[1], place[0]))


def is_full_rect(places):
    """Whether a set of places is all of one rectangle."""
    xs, ys = {x for x, y in places}, {y for x, y in places}
    return len(places) == (max(xs) - min(xs) + 1) * (max(ys) - min(ys) + 1)


def rows_behind_sides(places, deep):
    """The rows of places behind the left, right, lower and upper side of a full rectangle: two pairs of sets."""
    x0, x1 = min(x for x, y in places), max(x for x, y in places)
    y0, y1 = min(y for x, y in places), max(y for x, y in places)
    steps = range(1, deep + 1)
    left = {(x0 - step, y) for step in steps for y in range(y0, y1 + 1)}
    right = {(x1 + step, y) for step in steps for y in range(y0, y1 + 1)}
    low = {(x, y0 - step) for step in steps for x in range(x0, x1 + 1)}
    high = {(x, y1 + step) for step in steps for x in range(x0, x1 + 1)}
    return (left, right), (low, high)


LAYERS = "npgwvk"


def sheet_of(marks=(), **layers):
    """A sheet with some layers' regions, the others bare."""
    return (tuple(layers.get(layer, ()) for layer in LAYERS), tuple(sorted(marks)))


def sheet_of_rects(*rects, marks=()):
    """A sheet of rectangles (layer, x0, y0, x1, y1)."""
    layers = {layer: region_of(places_of_rects([rect[1:] for rect in rects if rect[0] == layer])) for layer in LAYERS}
    return sheet_of(marks, **layers)


def layer_places(sheet):
    """The set of each layer's places of a sheet."""
    return {layer: places_of(some) for layer, some in zip(LAYERS, sheet[0])}
