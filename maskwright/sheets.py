"""Sheets: a region for each layer, and marks."""

from maskwright.mixing import either
from maskwright.turning import turned, turned_rect


def sorted_marks(marks):
    """A tuple of marks, sorted, each once."""
    return tuple(sorted(set(marks)))


def turned_mark(mark, turn, dx, dy):
    """A mark turned and then moved, as its place is."""
    name, layer, x, y = mark
    x0, y0, x1, y1 = turned_rect((x, y, x + 1, y + 1), turn, dx, dy)
    return (name, layer, x0, y0)


def turned_sheet(sheet, turn, dx, dy):
    """A sheet turned and then moved."""
    regions = tuple([turned(region, turn, dx, dy) for region in sheet[0]])
    return (regions, sorted_marks([turned_mark(mark, turn, dx, dy) for mark in sheet[1]]))


def laid_over(one, other):
    """The sheet of two sheets laid over one another."""
    regions = tuple([either(left, right) for left, right in zip(one[0], other[0])])
    return (regions, sorted_marks(one[1] + other[1]))
