"""Point 10, and 2 of it."""

import unittest

from maskwright.regions import is_region, region
from maskwright.turning import after, back, turned
from tests.boards import board, places_of, region_of, some_regions, turned_place

EDGE = 2 ** 20
FAR_MOVE = 2 ** 19
SPOTS = [(0, 0), (1, 0), (0, 1), (5, -3), (-7, 2)]


class TestTurned(unittest.TestCase):
    def test_the_points_two_examples(self):
        for x, y in SPOTS:
            some = region([(x, y, x + 1, y + 1)])
            self.assertEqual(places_of(turned(some, 1, 0, 0)), {(-y - 1, x)})
            self.assertEqual(places_of(turned(some, 4, 0, 0)), {(-x - 1, y)})

    def test_each_turn_of_one_place(self):
        some = region([(2, 5, 3, 6)])
        told = [sorted(places_of(turned(some, turn, 0, 0))) for turn in range(8)]
        wanted = [(2, 5), (-6, 2), (-3, -6), (5, -3), (-3, 5), (-6, -3), (2, -6), (5, 2)]
        self.assertEqual(told, [[place] for place in wanted])

    def test_each_turn_place_by_place(self):
        for some in some_regions(25):
            for turn in range(8):
                for dx, dy in ((0, 0), (3, -5), (-11, 7)):
                    told = turned(some, turn, dx, dy)
                    self.assertTrue(is_region(told))
                    moved = [turned_place(place, turn, dx, dy) for place in places_of(some)]
                    self.assertEqual(told, region_of(set(moved)))

    def test_none(self):
        for turn in range(8):
            self.assertEqual(turned((), turn, 5, -5), ())

    def test_turn_0_moves_alone(self):
        some = board("##.", "#.#")
        self.assertEqual(turned(some, 0, 0, 0), some)
        self.assertEqual(turned(some, 0, 10, 20), ((20, 21, ((10, 12),)), (21, 22, ((10, 11), (12, 13)))))

    def test_turned_and_then_moved(self):
        self.assertEqual(turned(region([(0, 0, 3, 1)]), 1, 10, 20), region([(9, 20, 10, 23)]))
        self.assertEqual(turned(region([(0, 0, 3, 1)]), 5, 10, 20), region([(9, 17, 10, 20)]))

    def test_great_numbers(self):
        some = region([(-EDGE, 0, EDGE, 1), (EDGE - 1, 0, EDGE, EDGE)])
        for far in (-FAR_MOVE, FAR_MOVE):
            told = turned(some, 1, far, -far)
            wanted = [(far - 1, -EDGE - far, far, EDGE - far), (far - EDGE, EDGE - 1 - far, far, EDGE - far)]
            self.assertEqual(told, region(wanted))
            self.assertTrue(is_region(told))

    def test_two_hundred_bars(self):
        tall = region([(4 * k, 0, 4 * k + 2, 800) for k in range(200)])
        wide = region([(0, 4 * k, 800, 4 * k + 2) for k in range(200)])
        self.assertEqual(turned(tall, 7, 0, 0), wide)
        self.assertEqual(turned(wide, 7, 0, 0), tall)

    def test_asked_again_the_same(self):
        some = board("##.", "#.#")
        self.assertEqual(turned(some, 3, 1, 2), turned(some, 3, 1, 2))
        self.assertEqual(some, board("##.", "#.#"))


class TestTurns(unittest.TestCase):
    def test_turns_are_unlike(self):
        led = [tuple(turned_place(spot, turn, 0, 0) for spot in SPOTS) for turn in range(8)]
        self.assertEqual(len(set(led)), 8)

    def test_after_of_all_pairs(self):
        for one in range(8):
            for other in range(8):
                turn = after(one, other)
                self.assertIn(turn, range(8))
                for spot in SPOTS:
                    led = turned_place(turned_place(spot, one, 0, 0), other, 0, 0)
                    self.assertEqual(turned_place(spot, turn, 0, 0), led, (one, other))

    def test_after_of_regions(self):
        some = board("##.", "#..", "###")
        for one in range(8):
            for other in range(8):
                led = turned(turned(some, one, 0, 0), other, 0, 0)
                self.assertEqual(turned(some, after(one, other), 0, 0), led)

    def test_back_of_each(self):
        for turn in range(8):
            self.assertIn(back(turn), range(8))
            for spot in SPOTS:
                self.assertEqual(turned_place(turned_place(spot, turn, 0, 0), back(turn), 0, 0), spot)
            self.assertEqual((after(turn, back(turn)), after(back(turn), turn)), (0, 0))

    def test_back_of_quarters(self):
        self.assertEqual([back(turn) for turn in range(8)], [0, 3, 2, 1, 4, 5, 6, 7])


if __name__ == "__main__":
    unittest.main()
