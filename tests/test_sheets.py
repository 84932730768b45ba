"""Point 13, and 2 of it."""

import unittest

from maskwright.houses import flat
from maskwright.regions import is_region, region
from maskwright.sheets import laid_over, turned_sheet
from tests.boards import places_of, region_of, some_regions, turned_place

EDGE = 2 ** 20
FAR_MOVE = 2 ** 19
BARE = (((),) * 6, ())
MARKS = (("a", "g", 5, -2), ("a", "w", -1, 3), ("b", "n", 0, 0), ("b", "n", 1, 0), ("c", "v", -7, -8))


def some_sheet(first, marks=MARKS):
    """A sheet of regions by chance, the same each time."""
    return (tuple(some_regions(first + 6)[first:]), marks)


class TestTurnedSheet(unittest.TestCase):
    def same(self, sheet, turn, dx, dy):
        regions, marks = told = turned_sheet(sheet, turn, dx, dy)
        self.assertEqual((type(told), type(regions), type(marks)), (tuple, tuple, tuple))
        self.assertTrue(all(is_region(some) for some in regions))
        moved = [{turned_place(place, turn, dx, dy) for place in places_of(some)} for some in sheet[0]]
        self.assertEqual(regions, tuple(region_of(places) for places in moved))
        turned = [(name, layer) + turned_place((x, y), turn, dx, dy) for name, layer, x, y in sheet[1]]
        self.assertEqual(marks, tuple(sorted(turned)))

    def test_each_turn(self):
        for turn in range(8):
            for dx, dy in ((0, 0), (4, -9)):
                self.same(some_sheet(0), turn, dx, dy)
                self.same(some_sheet(7), turn, dx, dy)

    def test_marks_are_sorted_again(self):
        sheet = (((),) * 6, (("a", "n", 0, 0), ("a", "n", 1, 0), ("a", "n", 2, 0)))
        self.assertEqual(turned_sheet(sheet, 4, 0, 0)[1], (("a", "n", -3, 0), ("a", "n", -2, 0), ("a", "n", -1, 0)))

    def test_marks_are_turned_as_places(self):
        sheet = (((),) * 6, (("a", "n", 2, 5),))
        told = [turned_sheet(sheet, turn, 0, 0)[1][0][2:] for turn in range(8)]
        self.assertEqual(told, [(2, 5), (-6, 2), (-3, -6), (5, -3), (-3, 5), (-6, -3), (2, -6), (5, 2)])

    def test_bare(self):
        for turn in range(8):
            self.assertEqual(turned_sheet(BARE, turn, 7, 7), BARE)

    def test_great_numbers(self):
        wide = region([(-EDGE, -EDGE, EDGE, 1 - EDGE)])
        sheet = ((wide,) + ((),) * 5, (("a", "n", -EDGE, EDGE),))
        regions, marks = turned_sheet(sheet, 1, -FAR_MOVE, FAR_MOVE)
        x, y = EDGE - FAR_MOVE, FAR_MOVE
        self.assertEqual(regions[0], region([(x - 1, y - EDGE, x, y + EDGE)]))
        self.assertEqual(marks, (("a", "n", -EDGE - 1 - FAR_MOVE, FAR_MOVE - EDGE),))

    def test_flat_sheets(self):
        low = ("low", (("n", 0, 0, 3, 1), ("k", 0, 0, 1, 2)), (("a", "n", 2, 0),), ())
        for turn in range(8):
            house = (low, ("top", (), (), (("low", turn, 5, -6),)))
            self.assertEqual(turned_sheet(flat(house, "low"), turn, 5, -6), flat(house, "top"))

    def test_what_is_handed_in_stays(self):
        sheet, copy = some_sheet(3), some_sheet(3)
        told = turned_sheet(sheet, 3, 1, 1)
        self.assertEqual(sheet, copy)
        self.assertEqual(turned_sheet(sheet, 3, 1, 1), told)


class TestLaidOver(unittest.TestCase):
    def test_regions_of_both(self):
        for first in range(5):
            one, other = some_sheet(first), some_sheet(first + 9, ())
            regions, marks = told = laid_over(one, other)
            self.assertEqual((type(told), type(regions), type(marks)), (tuple, tuple, tuple))
            wanted = [region_of(places_of(left) | places_of(right)) for left, right in zip(one[0], other[0])]
            self.assertEqual(regions, tuple(wanted))
            self.assertTrue(all(is_region(some) for some in regions))
            self.assertEqual(marks, MARKS)

    def test_layers_stay_apart(self):
        dots = [region([(at, 0, at + 1, 1)]) for at in range(6)]
        one = ((dots[0], (), dots[2], (), (), ()), ())
        other = (((), dots[1], (), (), (), dots[5]), ())
        self.assertEqual(laid_over(one, other), ((dots[0], dots[1], dots[2], (), (), dots[5]), ()))

    def test_marks_of_both_sorted_each_once(self):
        one = (((),) * 6, (("a", "n", 0, 0), ("c", "n", 0, 0)))
        other = (((),) * 6, (("a", "n", 0, 0), ("a", "n", 0, 1), ("b", "w", 5, 5)))
        wanted = (("a", "n", 0, 0), ("a", "n", 0, 1), ("b", "w", 5, 5), ("c", "n", 0, 0))
        self.assertEqual(laid_over(one, other)[1], wanted)
        self.assertEqual(laid_over(other, one)[1], wanted)

    def test_bare_and_the_same(self):
        sheet = some_sheet(2)
        self.assertEqual(laid_over(sheet, BARE), sheet)
        self.assertEqual(laid_over(BARE, sheet), sheet)
        self.assertEqual(laid_over(sheet, sheet), sheet)
        self.assertEqual(laid_over(BARE, BARE), BARE)

    def test_what_is_handed_in_stays(self):
        one, other = some_sheet(3), some_sheet(11)
        told = laid_over(one, other)
        self.assertEqual((one, other), (some_sheet(3), some_sheet(11)))
        self.assertEqual(laid_over(one, other), told)


if __name__ == "__main__":
    unittest.main()
