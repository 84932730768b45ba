"""Point 7, and 2 of it."""

import unittest

from maskwright.mixing import area, both, either, less, rim
from maskwright.regions import is_region, rects_of, region
from tests.boards import board, places_of, region_of, some_places, some_regions

EDGE = 2 ** 20


def sides(places):
    """The sides between places of a set and others, place by place."""
    return sum((x + dx, y + dy) not in places for x, y in places for dx, dy in ((1, 0), (-1, 0), (0, 1), (0, -1)))


class TestTwoRegions(unittest.TestCase):
    def same(self, one, other):
        left, right = places_of(one), places_of(other)
        for told, places in (
            (both(one, other), left & right), (either(one, other), left | right), (less(one, other), left - right),
        ):
            self.assertTrue(is_region(told))
            self.assertEqual(told, region_of(places))

    def test_apart(self):
        one, other = board("##...", "##..."), board(".....", "....#")
        self.same(one, other)
        self.assertEqual(both(one, other), ())
        self.assertEqual(less(one, other), one)

    def test_touching_at_a_side(self):
        self.assertEqual(either(((0, 2, ((0, 3),)),), ((0, 2, ((3, 5),)),)), ((0, 2, ((0, 5),)),))
        self.assertEqual(either(((0, 2, ((0, 3),)),), ((2, 5, ((0, 3),)),)), ((0, 5, ((0, 3),)),))
        self.assertEqual(both(((0, 2, ((0, 3),)),), ((0, 2, ((3, 5),)),)), ())
        self.assertEqual(both(((0, 2, ((0, 3),)),), ((2, 5, ((0, 3),)),)), ())

    def test_touching_at_a_corner(self):
        self.same(board("##..", "##..", "....", "...."), board("....", "....", "..##", "..##"))

    def test_overlap(self):
        one, other = region([(0, 0, 4, 4)]), region([(2, 2, 6, 6)])
        self.assertEqual(both(one, other), ((2, 4, ((2, 4),)),))
        self.assertEqual(either(one, other), ((0, 2, ((0, 4),)), (2, 4, ((0, 6),)), (4, 6, ((2, 6),))))
        self.assertEqual(less(one, other), ((0, 2, ((0, 4),)), (2, 4, ((0, 2),))))

    def test_the_same(self):
        for some in some_regions(10):
            self.assertEqual(both(some, some), some)
            self.assertEqual(either(some, some), some)
            self.assertEqual(less(some, some), ())

    def test_no_places_on_either_side(self):
        self.assertEqual((both((), ()), either((), ()), less((), ())), ((), (), ()))
        for some in some_regions(10):
            self.assertEqual((both(some, ()), both((), some)), ((), ()))
            self.assertEqual((either(some, ()), either((), some)), (some, some))
            self.assertEqual((less(some, ()), less((), some)), (some, ()))

    def test_one_within_another(self):
        one, other = region([(0, 0, 9, 9)]), region([(3, 3, 6, 6)])
        self.same(one, other)
        self.assertEqual(less(other, one), ())
        self.assertEqual(either(less(one, other), other), one)

    def test_rows_that_become_alike_are_one_band(self):
        self.assertEqual(both(board("##.", "#.#"), board("#..", "#..")), ((0, 2, ((0, 1),)),))
        self.assertEqual(less(board("##.", "#.#"), board(".#.", "..#")), ((0, 2, ((0, 1),)),))
        self.assertEqual(either(board("##.", "#.#"), board("..#", ".#.")), ((0, 2, ((0, 3),)),))

    def test_by_chance(self):
        for seed in range(40):
            for percent in (15, 50, 85):
                one = region_of(some_places(seed, percent=percent))
                other = region_of({(x + 1, y + 1) for x, y in some_places(seed + 1000)})
                self.same(one, other)

    def test_great_numbers(self):
        wide, tall = region([(-EDGE, 0, EDGE, 1)]), region([(0, -EDGE, 1, EDGE)])
        self.assertEqual(both(wide, tall), ((0, 1, ((0, 1),)),))
        self.assertEqual(either(wide, tall), ((-EDGE, 0, ((0, 1),)), (0, 1, ((-EDGE, EDGE),)), (1, EDGE, ((0, 1),))))
        self.assertEqual(less(wide, tall), ((0, 1, ((-EDGE, 0), (1, EDGE))),))

    def test_two_hundred_bars(self):
        tall = region([(4 * k, 0, 4 * k + 2, 800) for k in range(200)])
        wide = region([(0, 4 * k, 800, 4 * k + 2) for k in range(200)])
        self.assertEqual(area(both(tall, wide)), 4 * 200 * 200)
        self.assertEqual(area(either(tall, wide)), 2 * 2 * 200 * 800 - 4 * 200 * 200)
        self.assertEqual(area(less(tall, wide)), 2 * 200 * 800 - 4 * 200 * 200)

    def test_asked_again_the_same(self):
        one, other = some_regions(2)
        for mix in (both, either, less):
            told = mix(one, other)
            rects_of(told).append("more")
            self.assertEqual(mix(one, other), told)
        self.assertEqual([one, other], some_regions(2))


class TestAreaAndRim(unittest.TestCase):
    def test_none(self):
        self.assertEqual((area(()), rim(())), (0, 0))

    def test_one(self):
        some = region([(-3, 0, 4, 5)])
        self.assertEqual((area(some), rim(some)), (35, 24))

    def test_a_band_that_begins_at_0(self):
        self.assertEqual(rim(((0, 1, ((0, 1),)),)), 4)
        self.assertEqual(rim(((-1, 0, ((0, 1),)), (0, 1, ((0, 2),)))), 8)

    def test_a_hole_has_a_rim(self):
        some = board("###", "#.#", "###")
        self.assertEqual((area(some), rim(some)), (8, 16))

    def test_corners_alone(self):
        some = board("#.", ".#")
        self.assertEqual((area(some), rim(some)), (2, 8))

    def test_bands_apart(self):
        some = board("##", "..", "##", "##")
        self.assertEqual((area(some), rim(some)), (6, 14))

    def test_by_chance(self):
        for seed in range(60):
            for percent in (15, 50, 85):
                places = some_places(seed, percent=percent)
                some = region_of(places)
                self.assertEqual(area(some), len(places))
                self.assertEqual(rim(some), sides(places))

    def test_great_numbers(self):
        some = region([(-EDGE, -EDGE, EDGE, EDGE)])
        self.assertEqual((area(some), rim(some)), (2 ** 42, 2 ** 23))
        holed = less(some, region([(-5, -5, 5, 5)]))
        self.assertEqual((area(holed), rim(holed)), (2 ** 42 - 100, 2 ** 23 + 40))


if __name__ == "__main__":
    unittest.main()
