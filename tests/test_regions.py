"""Points 4, 5, 6, and 2 of regions."""

import random
import unittest

from maskwright.regions import first_place, has, is_region, rects_of, region
from tests.boards import board, odd_things, places_of, places_of_rects, region_of, some_places, some_rects, within

FAR = 2 ** 21
EDGE = 2 ** 20


class TestIsRegion(unittest.TestCase):
    def told(self, thing, answer):
        self.assertIs(is_region(thing), answer, thing)

    def test_regions(self):
        self.told((), True)
        self.told(((0, 1, ((0, 1),)),), True)
        self.told(((-5, -2, ((-9, -7), (-6, 3))), (-2, 0, ((-9, -7),)), (4, 5, ((-9, -7),))), True)

    def test_bands_that_do_not_meet_may_be_alike(self):
        self.told(((0, 1, ((0, 1),)), (2, 3, ((0, 1),))), True)

    def test_bands_that_meet_may_not_be_alike(self):
        self.told(((0, 1, ((0, 1),)), (1, 3, ((0, 1),))), False)
        self.told(((0, 1, ((0, 1), (2, 4))), (1, 3, ((0, 1), (2, 4)))), False)
        self.told(((0, 1, ((0, 1), (2, 4))), (1, 3, ((0, 1), (2, 5)))), True)

    def test_bands_over_one_another(self):
        self.told(((0, 2, ((0, 1),)), (1, 3, ((5, 6),))), False)
        self.told(((4, 5, ((0, 1),)), (0, 1, ((5, 6),))), False)
        self.told(((0, 1, ((0, 1),)), (0, 1, ((5, 6),))), False)

    def test_y0_not_below_y1(self):
        self.told(((1, 1, ((0, 1),)),), False)
        self.told(((2, 1, ((0, 1),)),), False)

    def test_no_stretches(self):
        self.told(((0, 1, ()),), False)
        self.told(((0, 1, ((0, 1),)), (1, 2, ())), False)

    def test_x0_not_below_x1(self):
        self.told(((0, 1, ((1, 1),)),), False)
        self.told(((0, 1, ((2, 1),)),), False)

    def test_each_stretch_and_each_band_is_looked_at(self):
        for wrong in ((5, 5), (6, 5), (5, FAR + 1), (5, True), (5,), (5, 6, 7), [5, 6], "56", 5, None, ()):
            self.told(((0, 1, ((0, 1), wrong)),), False)
            self.told(((0, 1, ((0, 1), (3, 4), wrong, (8, 9))),), False)
            self.told(((0, 1, ((0, 1),)), (2, 3, (wrong,)), (4, 5, ((0, 1),))), False)
        for wrong in ((2, 2, ((0, 1),)), (2, 3, ()), (2, 3), [2, 3, ((0, 1),)], (2, True, ((0, 1),)), None, ()):
            self.told(((0, 1, ((0, 1),)), wrong), False)
            self.told(((0, 1, ((0, 1),)), wrong, (4, 5, ((0, 1),))), False)

    def test_stretches_that_touch_or_go_back(self):
        self.told(((0, 1, ((0, 1), (1, 2))),), False)
        self.told(((0, 1, ((0, 3), (2, 5))),), False)
        self.told(((0, 1, ((4, 5), (0, 1))),), False)
        self.told(((0, 1, ((0, 1), (2, 3))),), True)

    def test_bounds(self):
        self.told(((-FAR, FAR, ((-FAR, FAR),)),), True)
        self.told(((-FAR - 1, FAR, ((-FAR, FAR),)),), False)
        self.told(((-FAR, FAR + 1, ((-FAR, FAR),)),), False)
        self.told(((-FAR, FAR, ((-FAR - 1, FAR),)),), False)
        self.told(((-FAR, FAR, ((-FAR, FAR + 1),)),), False)
        self.told(((10 ** 39, 10 ** 39 + 1, ((0, 1),)),), False)

    def test_truths_for_numbers(self):
        self.told(((False, 1, ((0, 1),)),), False)
        self.told(((0, True, ((0, 1),)),), False)
        self.told(((0, 1, ((False, 1),)),), False)
        self.told(((0, 1, ((0, True),)),), False)

    def test_lists_for_tuples(self):
        self.told([(0, 1, ((0, 1),))], False)
        self.told(([0, 1, ((0, 1),)],), False)
        self.told(((0, 1, [(0, 1)]),), False)
        self.told(((0, 1, ([0, 1],)),), False)
        self.told([], False)

    def test_a_thing_too_few_or_too_many(self):
        self.told(((0, 1),), False)
        self.told(((0, 1, ((0, 1),), 0),), False)
        self.told(((0, 1, ((0,),)),), False)
        self.told(((0, 1, ((0, 1, 2),)),), False)
        self.told(((0, 1, (0, 1)),), False)
        self.told((0, 1, ((0, 1),)), False)

    def test_other_things_for_numbers(self):
        for thing in (None, "0", (), [], "", (0,)):
            self.told(((thing, 1, ((0, 1),)),), False)
            self.told(((0, thing, ((0, 1),)),), False)
            self.told(((0, 1, thing),), False)
            self.told(((0, 1, ((thing, 1),)),), False)
            self.told(((0, 1, ((0, thing),)),), False)
            self.told(((0, 1, (thing,)),), False)

    def test_odd_things(self):
        for thing in odd_things():
            self.told(thing, False)

    def test_one_bad_band_among_good_ones(self):
        good = [(3 * y, 3 * y + 1, ((0, 1),)) for y in range(200)]
        self.told(tuple(good), True)
        for at in (0, 100, 199):
            self.told(tuple(good[:at] + [within(0, 3)] + good[at + 1:]), False)

    def test_however_many_stretches(self):
        row = tuple((3 * x, 3 * x + 1) for x in range(20000))
        self.told(((0, 1, row),), True)
        self.told(((0, 1, row + ((59998, 60000),)),), False)


class TestRegion(unittest.TestCase):
    def same(self, rects):
        told = region(rects)
        self.assertTrue(is_region(told))
        self.assertEqual(told, region_of(places_of_rects(rects)))
        return told

    def test_none_and_one(self):
        self.assertEqual(region([]), ())
        self.assertEqual(region([(-2, -3, 5, 7)]), ((-3, 7, ((-2, 5),)),))

    def test_overlap(self):
        told = self.same([(0, 0, 4, 4), (2, 2, 6, 6)])
        self.assertEqual(told, ((0, 2, ((0, 4),)), (2, 4, ((0, 6),)), (4, 6, ((2, 6),))))

    def test_touching_at_a_side(self):
        self.assertEqual(self.same([(0, 0, 2, 3), (2, 0, 5, 3)]), ((0, 3, ((0, 5),)),))
        self.assertEqual(self.same([(0, 0, 2, 3), (0, 3, 2, 5)]), ((0, 5, ((0, 2),)),))

    def test_touching_at_a_corner(self):
        self.assertEqual(self.same([(0, 0, 2, 2), (2, 2, 4, 4)]), ((0, 2, ((0, 2),)), (2, 4, ((2, 4),))))

    def test_within_one_another_and_twice(self):
        self.assertEqual(self.same([(0, 0, 9, 9), (3, 3, 5, 5)]), ((0, 9, ((0, 9),)),))
        self.assertEqual(self.same([(0, 0, 9, 9), (0, 0, 9, 9), (0, 0, 9, 9)]), ((0, 9, ((0, 9),)),))

    def test_apart(self):
        self.same([(0, 0, 1, 1), (2, 0, 3, 1), (0, 2, 1, 3), (2, 2, 3, 3)])

    def test_a_ring_has_a_hole(self):
        told = self.same([(0, 0, 5, 1), (0, 4, 5, 5), (0, 0, 1, 5), (4, 0, 5, 5)])
        self.assertEqual(told, ((0, 1, ((0, 5),)), (1, 4, ((0, 1), (4, 5))), (4, 5, ((0, 5),))))

    def test_by_chance(self):
        for seed in range(60):
            self.same(some_rects(seed, 1 + seed % 12))

    def test_two_hundred(self):
        self.same(some_rects(5, 200, far=40))

    def test_two_hundred_bars(self):
        bars = [(4 * k, 0, 4 * k + 2, 400) for k in range(100)] + [(0, 4 * k, 400, 4 * k + 2) for k in range(100)]
        told = region(bars)
        self.assertTrue(is_region(told))
        self.assertEqual(told[0], (0, 2, ((0, 400),)))
        self.assertEqual(told[1], (2, 4, tuple((4 * k, 4 * k + 2) for k in range(100))))
        self.assertEqual(len(told), 200)

    def test_great_numbers(self):
        told = region([(-EDGE, -EDGE, EDGE, -EDGE + 1), (EDGE - 1, -EDGE, EDGE, EDGE)])
        self.assertEqual(told, ((-EDGE, -EDGE + 1, ((-EDGE, EDGE),)), (-EDGE + 1, EDGE, ((EDGE - 1, EDGE),))))
        self.assertEqual(region([(-EDGE, -EDGE, EDGE, EDGE)]), ((-EDGE, EDGE, ((-EDGE, EDGE),)),))

    def test_any_order(self):
        chance = random.Random(3)
        rects = some_rects(8, 60)
        told = region(rects)
        for _ in range(10):
            chance.shuffle(rects)
            self.assertEqual(region(rects), told)
        self.assertEqual(region(rects + rects[:30]), told)

    def test_what_is_handed_in_stays(self):
        rects = some_rects(9, 40)
        copy = list(rects)
        told = region(rects)
        self.assertEqual(rects, copy)
        rects.clear()
        self.assertEqual(told, region(copy))
        self.assertEqual(region(copy), region(copy))


class TestPlaces(unittest.TestCase):
    def test_has_at_each_edge(self):
        some = ((2, 5, ((-3, 0), (4, 6))), (7, 8, ((1, 2),)))
        for y in (2, 4):
            self.assertEqual([x for x in range(-9, 9) if has(some, x, y)], [-3, -2, -1, 4, 5])
        self.assertEqual([x for x in range(-9, 9) if has(some, x, 7)], [1])
        for y in (-9, 1, 5, 6, 8, 9):
            self.assertEqual([x for x in range(-9, 9) if has(some, x, y)], [])

    def test_has_tells_truths(self):
        self.assertIs(has((), 0, 0), False)
        self.assertIs(has(((0, 1, ((0, 1),)),), 0, 0), True)
        self.assertIs(has(((0, 1, ((0, 1),)),), 1, 0), False)
        self.assertIs(has(((0, 1, ((0, 1),)),), 0, 10 ** 39), False)

    def test_has_by_chance(self):
        for seed in range(20):
            places = some_places(seed)
            some = region_of(places)
            for x in range(-5, 9):
                for y in range(-5, 8):
                    self.assertIs(has(some, x, y), (x, y) in places)

    def test_has_at_great_numbers(self):
        some = region([(-EDGE, -EDGE, EDGE, EDGE)])
        self.assertTrue(has(some, -EDGE, -EDGE))
        self.assertTrue(has(some, EDGE - 1, EDGE - 1))
        self.assertFalse(has(some, EDGE, 0))
        self.assertFalse(has(some, 0, EDGE))
        self.assertFalse(has(some, -EDGE - 1, 0))

    def test_rects_of(self):
        self.assertEqual(rects_of(()), [])
        some = ((0, 1, ((0, 5),)), (1, 4, ((0, 1), (4, 5))), (4, 5, ((0, 5),)))
        self.assertEqual(rects_of(some), [(0, 0, 5, 1), (0, 1, 1, 4), (4, 1, 5, 4), (0, 4, 5, 5)])

    def test_rects_of_lead_back(self):
        for seed in range(30):
            some = region(some_rects(seed, 30))
            self.assertEqual(region(rects_of(some)), some)
            self.assertEqual(places_of_rects(rects_of(some)), places_of(some))

    def test_rects_of_many_bars_lead_back(self):
        some = region([(4 * k, 0, 4 * k + 2, 280) for k in range(70)] + [(0, 4 * k, 280, 4 * k + 2) for k in range(70)])
        self.assertGreater(len(rects_of(some)), 4900)
        self.assertEqual(region(rects_of(some)), some)

    def test_rects_of_is_the_askers_own(self):
        some = board("##.#", "#..#")
        told = rects_of(some)
        copy = list(told)
        told.append("more")
        told[0] = None
        self.assertEqual(rects_of(some), copy)

    def test_first_place(self):
        self.assertIsNone(first_place(()))
        self.assertEqual(first_place(region([(-2, 3, 4, 5)])), (-2, 3))
        self.assertEqual(first_place(board("...#.#", "######")), (3, 0))

    def test_first_place_by_chance(self):
        for seed in range(30):
            places = some_places(seed, percent=10)
            least = min(((y, x) for x, y in places), default=None)
            told = first_place(region_of(places))
            self.assertEqual(told, None if least is None else (least[1], least[0]))


if __name__ == "__main__":
    unittest.main()
