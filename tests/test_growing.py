"""Point 8, and 2 of it."""

import unittest

from maskwright.growing import grown, shrunk
from maskwright.regions import is_region, region
from tests.boards import board, near, places_of, region_of, some_places, some_regions

EDGE = 2 ** 20


def grown_places(places, k):
    return {spot for place in places for spot in near(place, k)}


def shrunk_places(places, k):
    return {place for place in places if near(place, k) <= places}


class TestGrown(unittest.TestCase):
    def test_none(self):
        for k in (0, 1, 1000):
            self.assertEqual(grown((), k), ())

    def test_by_0(self):
        for some in some_regions(20):
            self.assertEqual(grown(some, 0), some)

    def test_one(self):
        self.assertEqual(grown(region([(0, 0, 1, 1)]), 1), ((-1, 2, ((-1, 2),)),))
        self.assertEqual(grown(region([(-3, 4, 2, 6)]), 1000), ((-996, 1006, ((-1003, 1002),)),))

    def test_gaps_and_holes_close(self):
        self.assertEqual(grown(board("#..#"), 1), ((-1, 2, ((-1, 5),)),))
        self.assertEqual(grown(board("#...#"), 1), ((-1, 2, ((-1, 2), (3, 6))),))
        self.assertEqual(grown(board("###", "#.#", "###"), 1), ((-1, 4, ((-1, 4),)),))

    def test_corners_join(self):
        self.assertEqual(grown(board("#.", ".#"), 1), region_of(grown_places({(0, 0), (1, 1)}, 1)))

    def test_by_chance(self):
        for seed in range(30):
            for percent in (4, 20, 60):
                places = some_places(seed, wide=12, tall=11, percent=percent)
                for k in (0, 1, 2, 5):
                    told = grown(region_of(places), k)
                    self.assertTrue(is_region(told))
                    self.assertEqual(told, region_of(grown_places(places, k)))

    def test_by_1000(self):
        places = {(0, 0), (5, 1), (2500, 0)}
        told = grown(region_of(places), 1000)
        self.assertEqual(told, (
            (-1000, -999, ((-1000, 1001), (1500, 3501))),
            (-999, 1001, ((-1000, 1006), (1500, 3501))),
            (1001, 1002, ((-995, 1006),)),
        ))

    def test_great_numbers(self):
        some = region([(-EDGE, -EDGE, EDGE, EDGE)])
        self.assertEqual(grown(some, 1000), ((-EDGE - 1000, EDGE + 1000, ((-EDGE - 1000, EDGE + 1000),)),))


class TestShrunk(unittest.TestCase):
    def test_none(self):
        for k in (0, 1, 1000):
            self.assertEqual(shrunk((), k), ())

    def test_by_0(self):
        for some in some_regions(20):
            self.assertEqual(shrunk(some, 0), some)

    def test_one(self):
        some = region([(0, 0, 5, 3)])
        self.assertEqual(shrunk(some, 1), ((1, 2, ((1, 4),)),))
        self.assertEqual(shrunk(some, 2), ())
        self.assertEqual(shrunk(region([(0, 0, 2001, 2003)]), 1000), ((1000, 1003, ((1000, 1001),)),))

    def test_more_than_it_is_wide(self):
        self.assertEqual(shrunk(region([(0, 0, 1000, 1)]), 1), ())
        self.assertEqual(shrunk(region([(0, 0, 2000, 2000)]), 1000), ())

    def test_a_hole_grows(self):
        some = board("#######", "#######", "#######", "###.###", "#######", "#######", "#######")
        self.assertEqual(shrunk(some, 1), board(".......", ".#####.", ".#...#.", ".#...#.", ".#...#.", ".#####.", "......."))

    def test_a_bridge_goes(self):
        some = board("###...###", "#########", "###...###")
        self.assertEqual(shrunk(some, 1), board(".........", ".#.....#.", "........."))

    def test_by_chance(self):
        for seed in range(30):
            for percent in (60, 85, 97):
                places = some_places(seed, wide=12, tall=11, percent=percent)
                for k in (0, 1, 2, 5):
                    told = shrunk(region_of(places), k)
                    self.assertTrue(is_region(told))
                    self.assertEqual(told, region_of(shrunk_places(places, k)))

    def test_what_was_grown_shrinks_to_no_less(self):
        for some in some_regions(20, percent=20):
            self.assertLessEqual(places_of(some), places_of(shrunk(grown(some, 3), 3)))

    def test_great_numbers(self):
        some = region([(-EDGE, -EDGE, EDGE, EDGE)])
        self.assertEqual(shrunk(some, 1000), ((1000 - EDGE, EDGE - 1000, ((1000 - EDGE, EDGE - 1000),)),))


class TestAskedAgain(unittest.TestCase):
    def test_the_same(self):
        for some, copy in zip(some_regions(5), some_regions(5)):
            for change in (grown, shrunk):
                told = change(some, 2)
                self.assertEqual(some, copy)
                self.assertEqual(change(some, 2), told)


if __name__ == "__main__":
    unittest.main()
