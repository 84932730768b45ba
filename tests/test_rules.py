"""Points 14, 15 and 16, and 2 and 3 of them."""

import random
import unittest

from maskwright.regions import region
from maskwright.rules import break_of, breaks, house_rules
from maskwright.sheets import turned_sheet
from maskwright.turning import back
from tests.boards import (
    board, by_order, is_full_rect, layer_places, near, pieces_by_places, region_of, rows_behind_sides, sheet_of,
    sheet_of_rects, some_places, some_rects, turned_place,
)

EDGE = 2 ** 20
LAYERS = "npgwvk"


def far_apart(one, other):
    return max(abs(one[0] - other[0]), abs(one[1] - other[1]))


def gap(one, other):
    """Point 14's gap: that of a place and itself is -1, too."""
    return far_apart(one, other) - 1


def greatest_square(places, place):
    """The side of the greatest square of places in which one lies, by trying all."""
    x, y = place
    side = 0
    while any(
        all((cx + dx, cy + dy) in places for dx in range(side + 1) for dy in range(side + 1))
        for cx in range(x - side, x + 1) for cy in range(y - side, y + 1)
    ):
        side += 1
    return side


def width_by_places(a, k):
    for place in by_order(a):
        side = greatest_square(a, place)
        if side < k:
            return place + (k - side,)
    return None


def apart_by_places(a, others_of, k):
    """Others_of tells of a place of a those to which its gap counts."""
    for place in by_order(a):
        gaps = [gap(place, other) for other in others_of(place)]
        if gaps and min(gaps) < k:
            return place + (k - min(gaps),)
    return None


def pieces_apart_by_places(a, k):
    piece_of = {place: piece for piece in map(frozenset, pieces_by_places(a)) for place in piece}
    return apart_by_places(a, lambda place: a - piece_of[place], k)


def within_by_places(a, b, k):
    for place in by_order(a):
        if near(place, k) <= b:
            continue
        if place not in b:
            return place + (k + 1,)
        m = 0
        while near(place, m + 1) <= b:
            m += 1
        return place + (k - m,)
    return None


def is_so(a, b, piece, k):
    """Whether a piece is crossed by k rows, by point 14's words."""
    first, second = rows_behind_sides(piece, k)
    for ones, others in ((first, second), (second, first)):
        if all(row <= a and not row & b for row in ones) and all(row <= b and not row & a for row in others):
            return True
    return False


def cross_by_places(a, b, k):
    for piece in pieces_by_places(a & b):
        place = by_order(piece)[0]
        if not is_full_rect(piece):
            return place + (k + 1,)
        if not is_so(a, b, piece, k):
            return place + (k - max(m for m in range(k) if is_so(a, b, piece, m)),)
    return None


def break_by_places(sheet, rule):
    """The break of a rule counted place by place."""
    places = layer_places(sheet)
    a, k = places[rule[1]], rule[-1]
    if rule[0] == "width":
        return width_by_places(a, k)
    b = places[rule[2]]
    if rule[0] == "within":
        return within_by_places(a, b, k)
    if rule[0] == "cross":
        return cross_by_places(a, b, k)
    if rule[1] == rule[2]:
        return pieces_apart_by_places(a, k)
    return apart_by_places(a, lambda place: b, k)


def all_rules(ks):
    """Rules of each kind over the layers g and n."""
    for k in ks:
        yield ("width", "g", k)
        yield ("apart", "g", "g", k)
        yield ("apart", "g", "n", k)
        yield ("within", "g", "n", k)
        yield ("within", "g", "g", k)
        yield ("cross", "g", "n", k)
        yield ("cross", "g", "g", k)


def some_sheet(seed, percent):
    """Two layers of places by chance."""
    return sheet_of(
        g=region_of(some_places(seed, percent=percent)), n=region_of(some_places(seed + 1000, percent=90 - percent // 2)),
    )


def bars_sheet(seed):
    """Bars that cross bars, some of them too short or too near one another."""
    chance = random.Random(seed)
    rects = []
    for _ in range(chance.randrange(1, 4)):
        x, y = chance.randrange(-6, 10), chance.randrange(-6, 10)
        rects.append(("g", x, chance.randrange(-9, -5), x + chance.randrange(1, 4), chance.randrange(6, 15)))
        rects.append(("n", chance.randrange(-11, -5), y, chance.randrange(6, 16), y + chance.randrange(1, 4)))
    return sheet_of_rects(*rects)


class Rules(unittest.TestCase):
    def same(self, sheet, rule):
        told = break_of(sheet, rule)
        self.assertEqual(told, break_by_places(sheet, rule), (sheet, rule))
        if told is not None:
            self.assertIsInstance(told, tuple)
            self.assertTrue(all(type(number) is int for number in told))
        return told

    def told(self, sheet, rule, answer):
        self.assertEqual(self.same(sheet, rule), answer)


class TestByChance(Rules):
    def test_scattered_places(self):
        for seed in range(25):
            for percent in (8, 30, 60, 90):
                for rule in all_rules((1, 2, 3)):
                    self.same(some_sheet(seed, percent), rule)

    def test_full_boards_with_few_holes(self):
        for seed in range(25):
            holes = some_places(seed, wide=11, tall=10, percent=4)
            full = {(x, y) for x in range(-3, 8) for y in range(-3, 7)}
            sheet = sheet_of(g=region_of(full - holes), n=region_of(full))
            for rule in all_rules((2, 3, 4, 5)):
                self.same(sheet, rule)

    def test_bars_that_cross(self):
        kept = broken = 0
        for seed in range(150):
            for k in (1, 2, 4, 9):
                for a, b in (("g", "n"), ("n", "g")):
                    told = self.same(bars_sheet(seed), ("cross", a, b, k))
                    kept, broken = kept + (told is None), broken + (told is not None)
        self.assertGreater(min(kept, broken), 100)

    def test_rectangles(self):
        for seed in range(60):
            g = region(some_rects(seed, 6, far=14))
            n = region(some_rects(seed + 500, 4, far=14))
            for rule in all_rules((1, 2, 3, 6)):
                self.same(sheet_of(g=g, n=n), rule)

    def test_by_50(self):
        for seed in range(6):
            sheet = sheet_of(g=region(some_rects(seed, 3, far=30)), n=region(some_rects(seed + 50, 2, far=30)))
            for rule in all_rules((49, 50)):
                self.same(sheet, rule)


class TestWidth(Rules):
    def test_squares(self):
        sheet = sheet_of(w=region([(3, 5, 8, 9)]))
        for k in range(1, 5):
            self.told(sheet, ("width", "w", k), None)
        self.told(sheet, ("width", "w", 5), (3, 5, 1))
        self.told(sheet, ("width", "w", 50), (3, 5, 46))

    def test_by_1_all_is_wide(self):
        for seed in range(5):
            self.told(some_sheet(seed, 50), ("width", "g", 1), None)

    def test_a_thin_part(self):
        sheet = sheet_of(n=board("###....", "###....", "#######", "###...."))
        self.told(sheet, ("width", "n", 2), (3, 2, 1))
        self.told(sheet, ("width", "n", 3), (3, 2, 2))
        self.told(sheet, ("width", "n", 4), (0, 0, 1))

    def test_squares_may_lie_over_one_another(self):
        self.told(sheet_of(v=board("###.", "####", "####", ".###")), ("width", "v", 3), None)
        self.told(sheet_of(v=board("###.", "###.", ".###", ".###")), ("width", "v", 3), (0, 0, 1))
        self.told(sheet_of(v=board("##.", "###", ".##")), ("width", "v", 2), None)

    def test_the_greatest_square_counts(self):
        some = board("..####", "..####", "######", "..####", "..####")
        self.told(sheet_of(p=some), ("width", "p", 4), (0, 2, 3))
        self.told(sheet_of(p=board("#.####", "..####", "######", "..####", "..####")), ("width", "p", 5), (0, 0, 4))
        self.told(sheet_of(p=board("####.", "####.", "#####", "####.")), ("width", "p", 5), (0, 0, 1))

    def test_a_hole(self):
        self.told(sheet_of(g=board("#####", "#####", "##.##", "#####", "#####")), ("width", "g", 2), None)
        self.told(sheet_of(g=board("#####", "#####", "##.##", "#####", "#####")), ("width", "g", 3), (0, 0, 1))

    def test_at_50(self):
        self.assertIsNone(break_of(sheet_of(k=region([(0, 0, 50, 50)])), ("width", "k", 50)))
        self.assertEqual(break_of(sheet_of(k=region([(0, 0, 49, 90)])), ("width", "k", 50)), (0, 0, 1))
        some = region([(0, 0, 50, 50), (0, 50, 50, 51), (50, 3, 51, 4)])
        self.assertEqual(break_of(sheet_of(k=some), ("width", "k", 50)), (50, 3, 49))


class TestApart(Rules):
    def test_unlike_pieces(self):
        sheet = sheet_of(w=board("##...##", "##...##"))
        for k in (1, 2, 3):
            self.told(sheet, ("apart", "w", "w", k), None)
        self.told(sheet, ("apart", "w", "w", 4), (1, 0, 1))
        self.told(sheet, ("apart", "w", "w", 5), (0, 0, 1))

    def test_like_pieces_may_be_near(self):
        self.told(sheet_of(w=board("#####", "#...#", "#.#.#", "#...#")), ("apart", "w", "w", 1), None)
        self.told(sheet_of(w=board("#.#", "#.#", "###")), ("apart", "w", "w", 50), None)

    def test_corners_alone(self):
        self.told(sheet_of(w=board("##..", "##..", "..##", "..##")), ("apart", "w", "w", 1), (1, 1, 1))
        self.told(sheet_of(w=board("##..", "##..", "..##", "..##")), ("apart", "w", "w", 50), (0, 0, 49))
        self.told(sheet_of(w=board(".#", "#.")), ("apart", "w", "w", 3), (1, 0, 3))

    def test_gaps_across(self):
        self.told(sheet_of(w=board("#...", "....", "....", "...#")), ("apart", "w", "w", 2), None)
        self.told(sheet_of(w=board("#...", "....", "....", "...#")), ("apart", "w", "w", 3), (0, 0, 1))

    def test_the_least_gap_counts(self):
        self.told(sheet_of(w=board("#....#", "......", "#.....")), ("apart", "w", "w", 5), (0, 0, 4))

    def test_the_first_place_by_y_then_x(self):
        self.told(sheet_of(w=board("........#", ".#.......", "#........", "#..#....#")), ("apart", "w", "w", 2), (1, 1, 2))
        self.told(sheet_of(w=board("#......#.#", "..........")), ("apart", "w", "w", 2), (7, 0, 1))

    def test_two_layers(self):
        sheet = sheet_of(n=board("##", "##"), p=board(".....##", ".....##"))
        for k in (1, 2, 3):
            self.told(sheet, ("apart", "n", "p", k), None)
        self.told(sheet, ("apart", "n", "p", 4), (1, 0, 1))
        self.told(sheet, ("apart", "p", "n", 4), (5, 0, 1))

    def test_two_layers_at_one_place(self):
        sheet = sheet_of(n=board("####"), p=board("...##"))
        self.told(sheet, ("apart", "n", "p", 1), (2, 0, 1))
        self.told(sheet_of(n=board("#"), p=board("#")), ("apart", "n", "p", 1), (0, 0, 2))
        self.told(sheet_of(n=board("#"), p=board("#")), ("apart", "n", "p", 50), (0, 0, 51))

    def test_pieces_do_not_count_with_two_layers(self):
        sheet = sheet_of(n=board("#.#.#"), p=())
        self.told(sheet, ("apart", "n", "p", 50), None)

    def test_at_50(self):
        sheet = sheet_of(v=region([(0, 0, 2, 2), (52, 0, 54, 2)]), w=region([(0, 52, 2, 54)]))
        self.told(sheet, ("apart", "v", "v", 50), None)
        self.told(sheet, ("apart", "v", "w", 50), None)
        near_by = sheet_of(v=region([(0, 0, 2, 2), (51, 0, 54, 2)]), w=region([(0, 51, 2, 54)]))
        self.told(near_by, ("apart", "v", "v", 50), (1, 0, 1))
        self.told(near_by, ("apart", "v", "w", 50), (0, 1, 1))

    def test_many_pieces(self):
        rects = [(4 * x, 4 * y, 4 * x + 2, 4 * y + 2) for x in range(14) for y in range(14)]
        sheet = sheet_of(k=region(rects))
        self.assertIsNone(break_of(sheet, ("apart", "k", "k", 2)))
        self.assertEqual(break_of(sheet, ("apart", "k", "k", 3)), (1, 0, 1))


class TestWithin(Rules):
    def test_within(self):
        sheet = sheet_of(k=region([(0, 0, 2, 2)]), w=region([(-1, -1, 3, 3)]))
        self.told(sheet, ("within", "k", "w", 1), None)
        self.told(sheet, ("within", "k", "w", 2), (0, 0, 1))
        self.told(sheet, ("within", "k", "w", 3), (0, 0, 2))

    def test_each_side(self):
        for rect in ((0, -1, 3, 3), (-1, 0, 3, 3), (-1, -1, 2, 3), (-1, -1, 3, 2)):
            told = self.same(sheet_of(k=region([(0, 0, 2, 2)]), w=region([rect])), ("within", "k", "w", 1))
            self.assertEqual(told[2], 1)

    def test_a_corner_lacks(self):
        full = {(x, y) for x in range(-2, 4) for y in range(-2, 4)}
        for corner, first in (((-2, -2), (0, 0)), ((3, 3), (1, 1)), ((3, -2), (1, 0)), ((-2, 3), (0, 1))):
            sheet = sheet_of(k=region([(0, 0, 2, 2)]), w=region_of(full - {corner}))
            self.told(sheet, ("within", "k", "w", 2), first + (1,))
            self.told(sheet, ("within", "k", "w", 1), None)

    def test_the_place_itself_lacks(self):
        sheet = sheet_of(k=board("..##"), w=region([(-9, -9, 3, 9)]))
        self.told(sheet, ("within", "k", "w", 1), (2, 0, 1))
        self.told(sheet_of(k=board("...#"), w=region([(-9, -9, 3, 9)])), ("within", "k", "w", 1), (3, 0, 2))
        self.told(sheet_of(k=board("...#"), w=region([(-9, -9, 3, 9)])), ("within", "k", "w", 50), (3, 0, 51))

    def test_all_lacks(self):
        self.told(sheet_of(k=board(".#", "##")), ("within", "k", "w", 3), (1, 0, 4))

    def test_of_a_layer_within_itself(self):
        self.told(sheet_of(n=region([(0, 0, 5, 5)])), ("within", "n", "n", 1), (0, 0, 1))
        self.told(sheet_of(n=region([(0, 0, 5, 5)])), ("within", "n", "n", 50), (0, 0, 50))
        self.told(sheet_of(), ("within", "n", "n", 1), None)

    def test_at_50(self):
        inner = region([(0, 0, 3, 2)])
        self.told(sheet_of(g=inner, w=region([(-50, -50, 53, 52)])), ("within", "g", "w", 50), None)
        self.told(sheet_of(g=inner, w=region([(-49, -50, 53, 52)])), ("within", "g", "w", 50), (0, 0, 1))
        self.told(sheet_of(g=inner, w=region([(-50, -50, 52, 52)])), ("within", "g", "w", 50), (2, 0, 1))
        self.told(sheet_of(g=inner, w=region([(-50, -50, 53, 51)])), ("within", "g", "w", 50), (0, 1, 1))


class TestCross(Rules):
    RULE = ("cross", "g", "n", 2)

    def test_upright_and_lying(self):
        gate, ground = region([(3, 0, 5, 9)]), region([(0, 3, 9, 6)])
        for sheet in (sheet_of(g=gate, n=ground), sheet_of(g=ground, n=gate)):
            for k in (1, 2, 3):
                self.told(sheet, ("cross", "g", "n", k), None)
                self.told(sheet, ("cross", "n", "g", k), None)
        self.told(sheet_of(g=gate, n=ground), ("cross", "g", "n", 4), (3, 3, 1))
        self.told(sheet_of(g=gate, n=ground), ("cross", "g", "n", 50), (3, 3, 47))

    def test_one_place_too_short(self):
        gate, ground = (3, -2, 5, 4), (1, 0, 7, 2)
        self.told(sheet_of_rects(("g",) + gate, ("n",) + ground), self.RULE, None)
        for short in ((3, -1, 5, 4), (3, -2, 5, 3)):
            self.told(sheet_of_rects(("g",) + short, ("n",) + ground), self.RULE, (3, 0, 1))
        for short in ((2, 0, 7, 2), (1, 0, 6, 2)):
            self.told(sheet_of_rects(("g",) + gate, ("n",) + short), self.RULE, (3, 0, 1))
        for none in ((3, 0, 5, 4), (3, -2, 5, 2)):
            self.told(sheet_of_rects(("g",) + none, ("n",) + ground), self.RULE, (3, 0, 2))

    def test_a_row_that_lacks_a_place(self):
        sheet = sheet_of(g=board("..#....", "..##...", "..##...", "..##...", "..##..."), n=board("", "", "######"))
        self.told(sheet, self.RULE, (2, 2, 1))
        self.told(sheet, ("cross", "g", "n", 1), None)

    def test_the_other_layer_in_the_rows(self):
        gate, ground = ("g", 3, -4, 5, 6), ("n", 0, 0, 9, 2)
        self.told(sheet_of_rects(gate, ground, ("n", 3, -2, 4, -1)), self.RULE, (3, -2, 2))
        told = self.same(sheet_of_rects(gate, ground, ("g", 5, 0, 6, 1)), self.RULE)
        self.assertEqual(told, (3, 0, 3))
        self.told(sheet_of_rects(gate, ground, ("n", 3, 3, 5, 4)), self.RULE, (3, 0, 1))
        self.told(sheet_of_rects(gate, ground, ("g", 6, 0, 7, 2)), self.RULE, (3, 0, 1))

    def test_no_rectangle(self):
        some = board("..##..", "..##..", "######", "######", "..##..", "..##..")
        self.told(sheet_of(g=some, n=some), self.RULE, (2, 0, 3))
        self.told(sheet_of(g=board("##", "#."), n=board("##", "##")), ("cross", "g", "n", 50), (0, 0, 51))

    def test_of_a_layer_across_itself(self):
        self.told(sheet_of(g=region([(0, 0, 4, 4)])), ("cross", "g", "g", 1), (0, 0, 1))
        self.told(sheet_of(g=region([(0, 0, 4, 4)])), ("cross", "g", "g", 50), (0, 0, 50))
        self.told(sheet_of(g=board("##", "#.")), ("cross", "g", "g", 7), (0, 0, 8))
        self.told(sheet_of(), ("cross", "g", "g", 7), None)

    def test_one_within_the_other(self):
        sheet = sheet_of(g=region([(0, 0, 9, 9)]), n=region([(3, 4, 5, 6)]))
        self.told(sheet, ("cross", "g", "n", 3), (3, 4, 3))

    def test_the_first_piece_that_is_not_so(self):
        gates = [("g", 3, -9, 5, 9), ("g", 10, -3, 12, 9)]
        grounds = [("n", 0, -3, 15, -1), ("n", 0, 4, 15, 6)]
        sheet = sheet_of_rects(*gates, *grounds)
        self.told(sheet, self.RULE, (10, -3, 2))
        self.told(sheet, ("cross", "g", "n", 6), (3, -3, 3))

    def test_at_50(self):
        self.told(sheet_of_rects(("g", 0, -50, 1, 52), ("n", -50, 0, 51, 2)), ("cross", "g", "n", 50), None)
        self.told(sheet_of_rects(("g", 0, -50, 1, 51), ("n", -50, 0, 51, 2)), ("cross", "g", "n", 50), (0, 0, 1))

    def test_many_crossings(self):
        gates = region([(6 * at, -9, 6 * at + 2, 700) for at in range(100)])
        grounds = region([(-9, 6 * at, 700, 6 * at + 2) for at in range(100)])
        sheet = sheet_of(g=gates, n=grounds)
        self.assertIsNone(break_of(sheet, ("cross", "g", "n", 4)))
        self.assertEqual(break_of(sheet, ("cross", "g", "n", 5)), (0, 0, 1))


class TestEdges(Rules):
    def test_empty_layers(self):
        some = region([(0, 0, 9, 9)])
        for rule in all_rules((1, 2, 50)):
            self.told(sheet_of(), rule, None)
            self.told(sheet_of(n=some), rule, None)
        for k in (1, 50):
            self.told(sheet_of(g=some), ("apart", "g", "n", k), None)
            self.told(sheet_of(g=some), ("cross", "g", "n", k), None)

    def test_each_layer(self):
        for layer in LAYERS:
            sheet = sheet_of(**{layer: region([(0, 0, 1, 1), (2, 0, 3, 1)])})
            for other in LAYERS:
                lone = layer == other
                self.assertEqual(break_of(sheet, ("width", other, 2)), (0, 0, 1) if lone else None)
                self.assertEqual(break_of(sheet, ("apart", other, other, 2)), (0, 0, 1) if lone else None)
                self.assertEqual(break_of(sheet, ("within", layer, other, 2)), (0, 0, 2 if lone else 3))

    def test_great_numbers(self):
        rules = list(all_rules((1, 2, 3)))
        for seed in range(12):
            sheet = bars_sheet(seed)
            for dx, dy in ((EDGE, -EDGE), (-2 * EDGE + 20, 2 * EDGE - 20)):
                moved = (tuple(region([
                    (x0 + dx, y0 + dy, x1 + dx, y1 + dy) for y0, y1, row in some for x0, x1 in row
                ]) for some in sheet[0]), ())
                for rule in rules:
                    told = break_of(sheet, rule)
                    answer = told and (told[0] + dx, told[1] + dy, told[2])
                    self.assertEqual(break_of(moved, rule), answer)

    def test_great_regions(self):
        wide, tall = region([(-EDGE, 0, EDGE, 2)]), region([(0, -EDGE, 2, EDGE)])
        sheet = sheet_of(g=wide, n=tall, k=region([(-2 * EDGE, -2 * EDGE, 2 * EDGE, 2 * EDGE)]))
        self.assertIsNone(break_of(sheet, ("cross", "g", "n", 50)))
        self.assertEqual(break_of(sheet, ("width", "g", 3)), (-EDGE, 0, 1))
        self.assertEqual(break_of(sheet, ("apart", "g", "n", 50)), (-50, 0, 1))
        self.assertEqual(break_of(sheet, ("apart", "n", "g", 50)), (0, -50, 1))
        self.assertIsNone(break_of(sheet, ("within", "g", "k", 50)))
        self.assertEqual(break_of(sheet, ("within", "k", "g", 50)), (-2 * EDGE, -2 * EDGE, 51))


class TestTurned(Rules):
    """A sheet and it turned and moved agree."""

    def agree(self, sheet, rule, turn, dx, dy):
        told = break_of(sheet, rule)
        other = break_of(turned_sheet(sheet, turn, dx, dy), rule)
        self.assertEqual(told is None, other is None, (sheet, rule, turn))
        if told is None:
            return 0
        if turned_place(told[:2], turn, dx, dy) == other[:2]:
            self.assertEqual(told[2], other[2])
            return 1
        return 0

    def test_by_chance(self):
        met = 0
        for seed in range(12):
            for sheet in (some_sheet(seed, 40), bars_sheet(seed)):
                for rule in all_rules((1, 2, 3)):
                    for turn in range(8):
                        met += self.agree(sheet, rule, turn, 7, -4)
        self.assertGreater(met, 100)

    def test_there_and_back(self):
        for seed in range(5):
            sheet = some_sheet(seed, 60)
            for turn in range(8):
                again = turned_sheet(turned_sheet(sheet, turn, 0, 0), back(turn), 0, 0)
                for rule in all_rules((2,)):
                    self.assertEqual(break_of(again, rule), break_of(sheet, rule))


class TestBreaks(Rules):
    def test_none_to_twenty(self):
        sheet = bars_sheet(3)
        rules = tuple(all_rules((1, 2, 3)))[:20]
        self.assertEqual(len(rules), 20)
        for many in range(21):
            answer = []
            for number, rule in enumerate(rules[:many]):
                found = break_by_places(sheet, rule)
                if found is not None:
                    answer.append((number,) + found)
            told = breaks(sheet, rules[:many])
            self.assertIsInstance(told, list)
            self.assertEqual(told, answer)
        self.assertTrue(0 < len(answer) < 20)

    def test_one_rule_twice(self):
        sheet = sheet_of(n=board("#"))
        rule = ("width", "n", 3)
        self.assertEqual(breaks(sheet, (rule, ("width", "p", 3), rule)), [(0, 0, 0, 2), (2, 0, 0, 2)])

    def test_the_list_is_the_askers_own(self):
        sheet, rules = bars_sheet(3), tuple(all_rules((3, 4)))
        told = breaks(sheet, rules)
        copy = list(told)
        self.assertTrue(copy)
        told.clear()
        self.assertEqual(breaks(sheet, rules), copy)
        self.assertEqual((sheet, rules), (bars_sheet(3), tuple(all_rules((3, 4)))))


class TestHouseRules(unittest.TestCase):
    def test_in_order(self):
        self.assertEqual(house_rules(), (
            ("width", "n", 2), ("width", "p", 2), ("width", "g", 2), ("width", "w", 2), ("width", "v", 2),
            ("width", "k", 2), ("apart", "n", "n", 2), ("apart", "p", "p", 2), ("apart", "g", "g", 2),
            ("apart", "w", "w", 2), ("apart", "v", "v", 2), ("apart", "k", "k", 2), ("apart", "n", "p", 4),
            ("within", "k", "w", 1), ("cross", "g", "n", 2), ("cross", "g", "p", 2),
        ))

    def test_a_sheet_that_keeps_them(self):
        sheet = sheet_of_rects(
            ("n", 0, 0, 12, 4), ("p", 0, 8, 12, 12), ("g", 5, -2, 7, 14), ("w", 0, 0, 4, 4), ("k", 1, 1, 3, 3),
        )
        self.assertEqual(breaks(sheet, house_rules()), [])

    def test_a_sheet_that_breaks_them(self):
        dot, far = region([(0, 0, 1, 1)]), region([(0, 0, 1, 1), (2, 1, 4, 3)])
        sheet = ((dot, dot, dot, dot, dot, far), ())
        numbers = [row[0] for row in breaks(sheet, house_rules())]
        self.assertEqual(numbers, [0, 1, 2, 3, 4, 5, 11, 12, 13, 14, 15])


if __name__ == "__main__":
    unittest.main()
