"""Point 9, and 2 of it."""

import unittest

from maskwright.pieces import pieces
from maskwright.regions import first_place, is_region, region
from tests.boards import board, pieces_by_places, places_of, region_of, some_places

EDGE = 2 ** 20


class TestPieces(unittest.TestCase):
    def same(self, some):
        told = pieces(some)
        self.assertIsInstance(told, list)
        self.assertTrue(all(is_region(piece) for piece in told))
        self.assertEqual(told, [region_of(piece) for piece in pieces_by_places(places_of(some))])
        return told

    def test_none_and_one(self):
        self.assertEqual(pieces(()), [])
        self.assertEqual(pieces(region([(-3, 2, 5, 9)])), [((2, 9, ((-3, 5),)),)])

    def test_corners_alone_part(self):
        self.assertEqual(len(self.same(board("#.", ".#"))), 2)
        self.assertEqual(len(self.same(board(".#", "#."))), 2)
        self.assertEqual(len(self.same(board("#.#", ".#.", "#.#"))), 5)

    def test_sides_join(self):
        self.assertEqual(len(self.same(board("##.", ".#.", ".##"))), 1)

    def test_bands_apart(self):
        self.assertEqual(len(self.same(board("##", "..", "##"))), 2)

    def test_within_a_hole(self):
        some = board("#######", "#.....#", "#.###.#", "#.#.#.#", "#.###.#", "#.....#", "#######")
        told = self.same(some)
        self.assertEqual([first_place(piece) for piece in told], [(0, 0), (2, 2)])

    def test_joined_only_below_their_first_places(self):
        self.assertEqual(len(self.same(board("#.#.#", "#.#.#", "#####"))), 1)
        told = self.same(board("#.#.#", "#.#.#", "#.###"))
        self.assertEqual([first_place(piece) for piece in told], [(0, 0), (2, 0)])
        told = self.same(board("..#...#", "#.#.#.#", "#.#.#.#", "#...###", "#######"))
        self.assertEqual([first_place(piece) for piece in told], [(2, 0), (6, 0)])

    def test_a_spiral(self):
        some = board("#######", "......#", "#####.#", "#...#.#", "#.###.#", "#.....#", "#######")
        self.assertEqual(self.same(some), [some])

    def test_two_combs_in_one_another(self):
        told = self.same(board("########", "#.#.#.#.", "........", ".#.#.#.#", "########"))
        self.assertEqual(len(told), 2)
        self.assertEqual(len(self.same(board("#######", "#.....#", "#.#.#.#", "..#.#..", "#######"))), 2)

    def test_bands_that_become_alike_are_one(self):
        told = pieces(board("#.#", "#..", "#.#"))
        self.assertEqual(told, [((0, 3, ((0, 1),)),), ((0, 1, ((2, 3),)),), ((2, 3, ((2, 3),)),)])

    def test_order_by_y_then_x(self):
        told = self.same(board("....#", ".....", "#.#..", "....."))
        self.assertEqual([first_place(piece) for piece in told], [(4, 0), (0, 2), (2, 2)])
        told = self.same(board("...#", ".#.#", ".#.#"))
        self.assertEqual([first_place(piece) for piece in told], [(3, 0), (1, 1)])

    def test_by_chance(self):
        for seed in range(80):
            for percent in (30, 50, 60, 75):
                self.same(region_of(some_places(seed, wide=14, tall=12, percent=percent)))

    def test_two_hundred_bars(self):
        bars = [(3 * k, 0, 3 * k + 1, 9000 - k) for k in range(200)]
        self.assertEqual(pieces(region(bars)), [region([bar]) for bar in bars])

    def test_great_numbers(self):
        rects = [(-EDGE, -EDGE, EDGE, 0), (-EDGE, 1, EDGE, EDGE)]
        self.assertEqual(pieces(region(rects)), [region(rects[:1]), region(rects[1:])])

    def test_the_list_is_the_askers_own(self):
        some = board("#.#", "...", "#.#")
        told = pieces(some)
        copy = list(told)
        told.reverse()
        told.pop()
        self.assertEqual(pieces(some), copy)
        self.assertEqual(some, board("#.#", "...", "#.#"))


if __name__ == "__main__":
    unittest.main()
