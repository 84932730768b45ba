"""A desk: a house that is told row by row, and asked."""

from maskwright.alike import held
from maskwright.drawing import drawn
from maskwright.errors import NoCell, NoDeed, NoRow, TooMuch
from maskwright.formulas import KEPT_NAMES, names_of
from maskwright.houses import LAYERS, flat, with_cell
from maskwright.lists import is_list
from maskwright.making import made
from maskwright.mixing import area, rim
from maskwright.nets import net_at, nets
from maskwright.reading import HOUSE_ROWS, row_of, with_row
from maskwright.regions import rects_of
from maskwright.rows import least_row
from maskwright.rules import break_of, breaks, house_rules
from maskwright.switches import faults, listed
from maskwright.tables import table
from maskwright.writing import house_text, list_text

MOST_KEPT = 200

# The rows besides those of a house: a first word, and the kinds of what stands behind it.
DESK_ROWS = (
    ("undo", ()),
    ("draw", ("name", "name", "formula")),
    ("house", ()),
    ("area", ("cell", "layer")),
    ("rim", ("cell", "layer")),
    ("rects", ("cell", "layer")),
    ("break", ("cell", "rule")),
    ("breaks", ("cell",)),
    ("nets", ("cell",)),
    ("net", ("cell", "layer", "number", "number")),
    ("list", ("cell",)),
    ("faults", ("cell",)),
    ("one", ("cell", "cell")),
    ("table", ("cell", "name", "ins")),
)


def words_of(text):
    """The words of a row; a rule is told as one."""
    return text.split(" ", 2) if text.startswith("break ") else text.split(" ")


def read_row(thing):
    """The row that a thing tells."""
    row = row_of(words_of(thing), HOUSE_ROWS + DESK_ROWS) if isinstance(thing, str) else None
    if row is None:
        raise NoRow("the desk knows no such row")
    return row


def check_cells(house, row):
    """Refuse a row that names a cell that does not stand there."""
    names = {cell[0]: True for cell in house}
    kinds = dict(HOUSE_ROWS + DESK_ROWS)[row[0]]
    if any([kind == "cell" and thing not in names for kind, thing in zip(kinds, row[1:])]):
        raise NoCell("there is no cell of that name")


def commas(things):
    """Things with commas between them."""
    return ",".join([str(thing) for thing in things])


def blanks(texts):
    """Texts with blanks between them; `none` where there are none."""
    return " ".join(texts) if texts else "none"


def list_within(house, name):
    """The list of a cell laid flat."""
    return listed(flat(house, name))


def check_lists(lists):
    """Refuse lists of which one is beyond the bounds of what may be told of lists."""
    if not all([is_list(some) for some in lists]):
        raise TooMuch("a list is greater than those of which something is told")


def region_within(house, row):
    """The region of the cell and the layer that a row asks for."""
    word, name, layer = row
    return flat(house, name)[0][LAYERS.index(layer)]


def tell_house(house, row):
    """The text of the house."""
    return house_text(house) if house else "none"


def tell_area(house, row):
    """How many places a cell's layer has."""
    return str(area(region_within(house, row)))


def tell_rim(house, row):
    """How many sides the rim of a cell's layer has."""
    return str(rim(region_within(house, row)))


def tell_rects(house, row):
    """The rectangles of a cell's layer."""
    return blanks([commas(rect) for rect in rects_of(region_within(house, row))])


def tell_break(house, row):
    """The break of a rule in a cell."""
    word, name, rule = row
    found = break_of(flat(house, name), rule)
    return blanks([str(number) for number in found] if found is not None else [])


def tell_breaks(house, row):
    """The breaks of the rules of the house in a cell."""
    return blanks([commas(found) for found in breaks(flat(house, row[1]), house_rules())])


def tell_nets(house, row):
    """How many nets a cell has."""
    return str(len(nets(flat(house, row[1]))))


def tell_net(house, row):
    """The net of a place on a cell's layer."""
    word, name, layer, x, y = row
    net = net_at(flat(house, name), layer, x, y)
    return "none" if net is None else str(net)


def tell_list(house, row):
    """The text of a cell's list."""
    return list_text(list_within(house, row[1]))


def tell_faults(house, row):
    """The faults of a cell's marks."""
    loose, split, short = faults(flat(house, row[1]))
    told = []
    for word, things in (("loose", loose), ("open", [(name,) for name in split]), ("short", short)):
        told.append(" ".join([word] + [commas(thing) for thing in things]))
    return "; ".join(told)


def tell_one(house, row):
    """Whether the lists of two cells are one or two."""
    one, other = [list_within(house, name) for name in row[1:]]
    check_lists([one, other])
    return held(one, other)[0]


def tell_table(house, row):
    """The table of a cell's list."""
    word, name, out, ins = row
    some = list_within(house, name)
    check_lists([some])
    return blanks([str(entry) for entry in table(some, ins, out)])


ANSWERS = {
    "house": tell_house, "area": tell_area, "rim": tell_rim, "rects": tell_rects, "break": tell_break,
    "breaks": tell_breaks, "nets": tell_nets, "net": tell_net, "list": tell_list, "faults": tell_faults,
    "one": tell_one, "table": tell_table,
}


def drawn_cell(name, out, formula):
    """A cell drawn for a formula, and how many cuts its row has."""
    some, pairs = made(formula, out)
    cuts, row = least_row(some, pairs)
    regions, marks = drawn(some, pairs, row)
    rects = [(layer,) + rect for layer, region in zip(LAYERS, regions) for rect in rects_of(region)]
    return ((name, tuple(rects), marks, ()), cuts)


class Desk:
    """Keeps a house, at first without cells, and the houses that it was ahead of the rows that can be taken back."""

    def __init__(self):
        self.house = ()
        self.earlier = []

    def say(self, row):
        """The answer to a row."""
        told = read_row(row)
        check_cells(self.house, told)
        if told[0] in ANSWERS:
            answer = ANSWERS[told[0]]
            return answer(self.house, told)
        if told[0] == "undo":
            return self.undo()
        if told[0] == "draw":
            return self.draw(told)
        self.keep(with_row(self.house, told))
        return "ok"

    def keep(self, house):
        """Go on with a house; None is one that can't be."""
        if house is None:
            raise NoDeed("the house can't have that row now")
        self.earlier = self.earlier[1 - MOST_KEPT:] + [self.house]
        self.house = house

    def undo(self):
        """Take back the last row that changed the house."""
        if not self.earlier:
            raise NoDeed("there is nothing to take back")
        self.house = self.earlier.pop()
        return "ok"

    def draw(self, row):
        """Put a cell drawn for a formula behind the others."""
        word, name, out, formula = row
        # Whether the name can stand there is told ahead of whether the formula can be drawn.
        if with_cell(self.house, (name, (), (), ())) is None or out in KEPT_NAMES or out in names_of(formula):
            raise NoDeed("such a cell can't be drawn now")
        cell, cuts = drawn_cell(name, out, formula)
        self.keep(with_cell(self.house, cell))
        return str(cuts)
