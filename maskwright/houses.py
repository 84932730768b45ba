"""Houses: cells of rectangles and marks on layers, which use other cells again."""

from maskwright.errors import NoCell, TooMuch
from maskwright.kinds import is_name, is_tuple_of, is_tuple_to, is_whole_from
from maskwright.regions import region
from maskwright.sheets import sorted_marks, turned_mark
from maskwright.turning import turned_rect

LAYERS = ("n", "p", "g", "w", "v", "k")
MARKED_LAYERS = ("n", "p", "g", "w", "v")

FAR_PLACE = 2 ** 20
FAR_MOVE = 2 ** 16
LAST_TURN = 7

# What stands in a cell behind its name, each in a tuple of its own.
PARTS = ("rect", "mark", "use")

MOST_CELLS = 12
MOST_RECTS = 200
MOST_MARKS = 40
MOST_USES = 20

MOST_LAID = 600
DEEPEST = 6


def are_within(numbers, far):
    """Whether all of some things are whole numbers from -far to far."""
    return all([is_whole_from(number, -far, far) for number in numbers])


def is_rect(thing):
    """Whether a thing is a rectangle on a layer."""
    if not is_tuple_of(thing, 5) or thing[0] not in LAYERS:
        return False
    return are_within(thing[1:], FAR_PLACE) and thing[1] < thing[3] and thing[2] < thing[4]


def is_mark(thing):
    """Whether a thing is a mark of a cell."""
    if not is_tuple_of(thing, 4) or not is_name(thing[0]):
        return False
    return thing[1] in MARKED_LAYERS and are_within(thing[2:], FAR_PLACE)


def is_use(thing, ahead):
    """Whether a thing is a use of a cell whose name is one of a dict's keys."""
    if not is_tuple_of(thing, 4) or not is_name(thing[0]) or thing[0] not in ahead:
        return False
    return is_whole_from(thing[1], 0, LAST_TURN) and are_within(thing[2:], FAR_MOVE)


def is_cell(thing, ahead):
    """Whether a thing is a cell that may stand behind those whose names are a dict's keys."""
    if not is_tuple_of(thing, 4):
        return False
    name, rects, marks, uses = thing
    if not is_name(name) or name in ahead:
        return False
    if not is_tuple_to(rects, MOST_RECTS) or not all([is_rect(rect) for rect in rects]):
        return False
    if not is_tuple_to(marks, MOST_MARKS) or not all([is_mark(mark) for mark in marks]):
        return False
    return is_tuple_to(uses, MOST_USES) and all([is_use(use, ahead) for use in uses])


def is_house(thing):
    """Whether any thing is a house."""
    if not is_tuple_to(thing, MOST_CELLS):
        return False
    ahead = {}
    for cell in thing:
        if not is_cell(cell, ahead):
            return False
        ahead[cell[0]] = True
    return True


def with_cell(house, cell):
    """A house with a cell put behind the others, or None where it can't have it."""
    ahead = {own[0]: True for own in house}
    if len(house) == MOST_CELLS or not is_cell(cell, ahead):
        return None
    return house + (cell,)


def is_part(word, thing, ahead):
    """Whether a thing is a rect, mark or use, as a word says; a use of a cell whose name is one of a dict's keys."""
    if word == "rect":
        return is_rect(thing)
    return is_mark(thing) if word == "mark" else is_use(thing, ahead)


def with_part(house, word, part):
    """A house with a rect, mark or use put behind those of its last cell, or None where it can't have it."""
    if not house:
        return None
    place = PARTS.index(word)
    bounds = (MOST_RECTS, MOST_MARKS, MOST_USES)
    last = list(house[-1])
    ahead = {cell[0]: True for cell in house[:-1]}
    if len(last[place + 1]) == bounds[place] or not is_part(word, part, ahead):
        return None
    last[place + 1] += (part,)
    return house[:-1] + (tuple(last),)


def counted(house):
    """Each cell's name, and how much is laid of it and how deep it is."""
    counts = {}
    for name, rects, marks, uses in house:
        many = len(rects) + len(marks) + len(uses)
        deep = 1
        for use in uses:
            used_many, used_deep = counts[use[0]]
            many += used_many
            deep = max(deep, used_deep + 1)
        counts[name] = (many, deep)
    return counts


def laid(cells, name):
    """The rects and the marks of a cell, and of those that it uses, turned and moved: two lists."""
    rects = list(cells[name][1])
    marks = list(cells[name][2])
    for used, turn, dx, dy in cells[name][3]:
        used_rects, used_marks = laid(cells, used)
        for rect in used_rects:
            rects.append((rect[0],) + turned_rect(rect[1:], turn, dx, dy))
        for mark in used_marks:
            marks.append(turned_mark(mark, turn, dx, dy))
    return (rects, marks)


def flat(house, name):
    """A cell of a house laid flat to a sheet."""
    cells = {cell[0]: cell for cell in house}
    if not isinstance(name, str) or name not in cells:
        raise NoCell("there is no cell of that name")
    many, deep = counted(house)[name]
    if many > MOST_LAID or deep > DEEPEST:
        raise TooMuch("more is laid than six hundred, or cells use one another more than six deep")
    rects, marks = laid(cells, name)
    regions = [region([rect[1:] for rect in rects if rect[0] == layer]) for layer in LAYERS]
    return (tuple(regions), sorted_marks(marks))
