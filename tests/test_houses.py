"""Points 11 and 12, and 2 of them."""

import unittest

from maskwright.errors import NoCell, TooMuch
from maskwright.houses import flat, is_house
from maskwright.regions import is_region, region
from tests.boards import odd_things, places_of, region_of, turned_place, within

EDGE = 2 ** 20
FAR_MOVE = 2 ** 16
LAYERS = "npgwvk"
RECT = ("n", 0, 0, 1, 1)
MARK = ("a", "n", 0, 0)
USE = ("low", 0, 0, 0)
LOW = ("low", (RECT,), (), ())


def letters(number):
    """An unlike name for each number below 676."""
    return "abcdefghijklmnopqrstuvwxyz"[number // 26] + "abcdefghijklmnopqrstuvwxyz"[number % 26]


def with_rects(*rects):
    return (("cell", rects, (), ()),)


def with_marks(*marks):
    return (("cell", (), marks, ()),)


def with_uses(*uses):
    return (LOW, ("cell", (), (), uses))


class TestIsHouse(unittest.TestCase):
    def told(self, thing, answer):
        self.assertIs(is_house(thing), answer, thing)

    def test_houses(self):
        self.told((), True)
        self.told((("a", (), (), ()),), True)
        self.told((LOW, ("high", (RECT, RECT), (MARK, MARK), (USE, USE))), True)
        self.told((("a", (), (), ()), ("b", (), (), (("a", 0, 0, 0),)), ("c", (), (), (("b", 1, 2, 3),))), True)

    def test_names(self):
        for name in ("a", "z", "abcdefgh", "up", "down", "zzzzzzzz"):
            self.told(((name, (), (), ()),), True)
            self.told(with_marks((name, "n", 0, 0)), True)
            self.told(((name, (), (), ()), ("cell", (), (), ((name, 0, 0, 0),))), True)
        bad = ("", "abcdefghi", "A", "aB", "a1", "a b", " a", "a_", "a-b", "{", "`", None, 0, True, (), ("a",), ["a"])
        for name in bad:
            self.told(((name, (), (), ()),), False)
            self.told(with_marks((name, "n", 0, 0)), False)
            self.told(with_uses((name, 0, 0, 0)), False)
            self.told(((name, (), (), ()), ("cell", (), (), ((name, 0, 0, 0),))), False)

    def test_layers(self):
        for layer in LAYERS:
            self.told(with_rects((layer, 0, 0, 1, 1)), True)
            self.told(with_marks(("a", layer, 0, 0)), layer != "k")
        for layer in ("", "x", "N", "np", "kk", None, 0, ("n",), ["n"], True):
            self.told(with_rects((layer, 0, 0, 1, 1)), False)
            self.told(with_marks(("a", layer, 0, 0)), False)

    def test_rectangles_without_places(self):
        for rect in (("n", 0, 0, 0, 1), ("n", 0, 0, 1, 0), ("n", 1, 0, 0, 1), ("n", 0, 1, 1, 0)):
            self.told(with_rects(rect), False)
        for rect in (("n", 5, 0, 3, 9), ("n", 0, 5, 9, 3)):
            self.told(with_rects(rect), False)

    def test_bounds_of_rects(self):
        self.told(with_rects(("n", -EDGE, -EDGE, EDGE, EDGE)), True)
        self.told(with_rects(("n", -EDGE - 1, -EDGE, EDGE, EDGE)), False)
        self.told(with_rects(("n", -EDGE, -EDGE - 1, EDGE, EDGE)), False)
        self.told(with_rects(("n", -EDGE, -EDGE, EDGE + 1, EDGE)), False)
        self.told(with_rects(("n", -EDGE, -EDGE, EDGE, EDGE + 1)), False)

    def test_bounds_of_marks(self):
        self.told(with_marks(("a", "n", -EDGE, EDGE), ("a", "n", EDGE, -EDGE)), True)
        for x, y in ((-EDGE - 1, 0), (EDGE + 1, 0), (0, -EDGE - 1), (0, EDGE + 1), (10 ** 39, 0)):
            self.told(with_marks(("a", "n", x, y)), False)

    def test_bounds_of_uses(self):
        self.told(with_uses(("low", 0, -FAR_MOVE, FAR_MOVE), ("low", 7, FAR_MOVE, -FAR_MOVE)), True)
        for dx, dy in ((-FAR_MOVE - 1, 0), (FAR_MOVE + 1, 0), (0, -FAR_MOVE - 1), (0, FAR_MOVE + 1)):
            self.told(with_uses(("low", 0, dx, dy)), False)
        for turn in range(8):
            self.told(with_uses(("low", turn, 0, 0)), True)
        self.told(with_uses(("low", -1, 0, 0)), False)
        self.told(with_uses(("low", 8, 0, 0)), False)

    def test_other_things_for_numbers(self):
        for thing in (True, False, None, "0", "", (), (0,), [], [0]):
            for at in range(1, 5):
                rect = ("n", -5, -5, 5, 5)
                self.told(with_rects(rect[:at] + (thing,) + rect[at + 1:]), False)
            for at in (2, 3):
                self.told(with_marks(MARK[:at] + (thing,) + MARK[at + 1:]), False)
            for at in (1, 2, 3):
                self.told(with_uses(USE[:at] + (thing,) + USE[at + 1:]), False)

    def test_lists_for_tuples(self):
        self.told([], False)
        self.told([("a", (), (), ())], False)
        self.told((["a", (), (), ()],), False)
        for at in (1, 2, 3):
            cell = ("a", (), (), ())
            self.told((cell[:at] + ([],) + cell[at + 1:],), False)
        self.told(with_rects(list(RECT)), False)
        self.told(with_marks(list(MARK)), False)
        self.told(with_uses(list(USE)), False)

    def test_a_thing_too_few_or_too_many(self):
        self.told((("a", (), ()),), False)
        self.told((("a", (), (), (), ()),), False)
        self.told(("a", (), (), ()), False)
        self.told(with_rects(RECT[:-1]), False)
        self.told(with_rects(RECT + (9,)), False)
        self.told(with_marks(MARK[:-1]), False)
        self.told(with_marks(MARK + (9,)), False)
        self.told(with_uses(USE[:-1]), False)
        self.told(with_uses(USE + (9,)), False)
        self.told(with_rects(()), False)

    def test_other_things_for_parts(self):
        for thing in (None, True, 0, "", "abcd", "abcde", [], (0,), ("a",), within(0, 4)):
            for at in (1, 2, 3):
                cell = ("a", (), (), ())
                self.told((cell[:at] + (thing,) + cell[at + 1:],), False)
            self.told((LOW, thing), False)

    def test_odd_things(self):
        for thing in odd_things():
            self.told(thing, False)

    def test_two_cells_of_one_name(self):
        self.told((LOW, LOW), False)
        self.told((LOW, ("other", (), (), ()), ("low", (), (), ())), False)

    def test_uses_of_cells_that_do_not_stand_ahead(self):
        self.told((("a", (), (), (("a", 0, 0, 0),)),), False)
        self.told((("a", (), (), (("b", 0, 0, 0),)), ("b", (), (), ())), False)
        self.told((("a", (), (), (("c", 0, 0, 0),)),), False)

    def test_as_many_as_may_be_and_one_more(self):
        cells = tuple((letters(k), (), (), ()) for k in range(13))
        self.told(cells[:12], True)
        self.told(cells, False)
        self.told(with_rects(*[RECT] * 200), True)
        self.told(with_rects(*[RECT] * 201), False)
        self.told(with_marks(*[MARK] * 40), True)
        self.told(with_marks(*[MARK] * 41), False)
        self.told(with_uses(*[USE] * 20), True)
        self.told(with_uses(*[USE] * 21), False)

    def test_each_part_is_looked_at(self):
        self.told(with_rects(RECT, RECT, ("x", 0, 0, 1, 1), RECT), False)
        self.told(with_marks(MARK, MARK, ("a", "k", 0, 0)), False)
        self.told(with_uses(USE, ("none", 0, 0, 0), USE), False)
        self.told((LOW, ("a", (), (), ()), ("b", (("n", 0, 0, 0, 0),), (), ())), False)


def places_by_layer(house, name):
    """The places of each layer and the marks of a cell, place by place."""
    cells = {cell[0]: cell for cell in house}
    places = {layer: set() for layer in LAYERS}
    rects, marks, uses = cells[name][1:]
    for layer, x0, y0, x1, y1 in rects:
        places[layer] |= {(x, y) for x in range(x0, x1) for y in range(y0, y1)}
    names = set(marks)
    for used, turn, dx, dy in uses:
        used_places, used_names = places_by_layer(house, used)
        for layer in LAYERS:
            places[layer] |= {turned_place(place, turn, dx, dy) for place in used_places[layer]}
        names |= {(word, layer) + turned_place((x, y), turn, dx, dy) for word, layer, x, y in used_names}
    return places, names


LEAF = ("leaf", (("n", 0, 0, 3, 1), ("g", 1, -1, 2, 4), ("k", 0, 0, 1, 1)), (("s", "n", 2, 0), ("t", "g", 1, 3)), ())
LIMB = ("limb", (("w", -2, -2, 0, 5),), (("a", "w", -1, 4),), (("leaf", 1, 5, 2), ("leaf", 6, -4, 0)))
TREE = (
    "tree", (("v", 0, 0, 9, 2), ("n", 1, 0, 2, 9)), (("r", "v", 8, 1), ("s", "n", 1, 1)),
    (("limb", 5, 3, -7), ("leaf", 0, 0, 0), ("limb", 2, 0, 0), ("leaf", 0, 0, 0)),
)
HOUSE = (LEAF, LIMB, ("bare", (), (), ()), TREE)


class TestFlat(unittest.TestCase):
    def same(self, house, name):
        regions, marks = sheet = flat(house, name)
        self.assertEqual((type(sheet), type(regions), type(marks)), (tuple, tuple, tuple))
        self.assertEqual(len(regions), 6)
        self.assertTrue(all(is_region(some) for some in regions))
        places, names = places_by_layer(house, name)
        self.assertEqual(regions, tuple(region_of(places[layer]) for layer in LAYERS))
        self.assertEqual(marks, tuple(sorted(names)))

    def test_a_cell_by_itself(self):
        self.same(HOUSE, "leaf")
        self.assertEqual(flat(HOUSE, "bare"), (((),) * 6, ()))

    def test_layers_in_order(self):
        rects = tuple((layer, at, 0, at + 1, 1) for at, layer in enumerate("npgwvk"))
        regions = flat((("a", rects[::-1], (), ()),), "a")[0]
        self.assertEqual(regions, tuple(region([(at, 0, at + 1, 1)]) for at in range(6)))

    def test_cells_within_cells(self):
        self.same(HOUSE, "limb")
        self.same(HOUSE, "tree")

    def test_each_turn(self):
        for turn in range(8):
            self.same((LEAF, LIMB, ("top", (), (), (("limb", turn, 4, -9),))), "top")

    def test_turned_and_then_moved(self):
        house = (("a", (("n", 0, 0, 3, 1),), (("s", "n", 2, 0),), ()), ("b", (), (), (("a", 1, 10, 20),)))
        regions, marks = flat(house, "b")
        self.assertEqual(regions[0], region([(9, 20, 10, 23)]))
        self.assertEqual(marks, (("s", "n", 9, 22),))

    def test_marks_sorted_each_once(self):
        marks = (("b", "n", 0, 0), ("a", "w", 0, 0), ("b", "n", 0, 0), ("a", "g", 5, 5), ("a", "g", -5, 9))
        house = (("a", (), marks, ()), ("b", (), marks[:1], (("a", 0, 0, 0), ("a", 0, 0, 0), ("a", 0, 1, 0))))
        self.assertEqual(flat(house, "a")[1], (("a", "g", -5, 9), ("a", "g", 5, 5), ("a", "w", 0, 0), ("b", "n", 0, 0)))
        self.assertEqual(flat(house, "b")[1], (
            ("a", "g", -5, 9), ("a", "g", -4, 9), ("a", "g", 5, 5), ("a", "g", 6, 5),
            ("a", "w", 0, 0), ("a", "w", 1, 0), ("b", "n", 0, 0), ("b", "n", 1, 0),
        ))

    def test_great_numbers(self):
        house = [("aa", (("n", EDGE - 1, EDGE - 1, EDGE, EDGE),), (("s", "n", EDGE, EDGE),), ())]
        for k in range(1, 6):
            house.append((letters(k), (), (), ((house[-1][0], 0, FAR_MOVE, FAR_MOVE),)))
        regions, marks = flat(tuple(house), house[-1][0])
        far = EDGE + 5 * FAR_MOVE
        self.assertEqual(places_of(regions[0]), {(far - 1, far - 1)})
        self.assertEqual(marks, (("s", "n", far, far),))

    def test_no_cell(self):
        for name in ("none", "", "Leaf", "leaf ", "lea", None, 0, True, (), [], ["leaf"], ("leaf",), within([], 7)):
            with self.assertRaises(NoCell):
                flat(HOUSE, name)
            with self.assertRaises(NoCell):
                flat((), name)
        for name in odd_things():
            with self.assertRaises(NoCell):
                flat(HOUSE, name)

    def test_asked_again_the_same(self):
        told = flat(HOUSE, "tree")
        flat(HOUSE, "leaf")
        with self.assertRaises(NoCell):
            flat(HOUSE, "none")
        self.assertEqual(flat(HOUSE, "tree"), told)


class TestTooMuch(unittest.TestCase):
    def laid(self, rects, marks=0, own=0):
        """A house whose last cell lays twice a cell with so many parts, and so many rects of its own."""
        low = ("low", (RECT,) * rects, (MARK,) * marks, ())
        return (low, ("top", (RECT,) * own, (), (USE, USE)))

    def refused(self, house, name):
        self.assertTrue(is_house(house))
        with self.assertRaises(TooMuch):
            flat(house, name)

    def test_six_hundred_and_one(self):
        self.assertEqual(flat(self.laid(200, 0, 198), "top")[0][0], ((0, 1, ((0, 1),)),))
        self.refused(self.laid(200, 0, 199), "top")

    def test_marks_count(self):
        flat(self.laid(200, 40, 118), "top")
        self.refused(self.laid(200, 40, 119), "top")

    def test_uses_count_as_often_as_they_come(self):
        bare = ("low", (), (), ())
        mid = ("mid", (), (), (USE,) * 20)
        uses = (("mid", 0, 0, 0),) * 20
        flat((bare, mid, ("top", (RECT,) * 180, (), uses)), "top")
        self.refused((bare, mid, ("top", (RECT,) * 181, (), uses)), "top")

    def test_each_rect_counts_though_alike(self):
        low = ("low", (RECT,) * 100, (), ())
        house = (low, ("top", (), (), (USE,) * 6))
        self.refused(house, "top")
        flat(house, "low")

    def test_six_deep_and_seven(self):
        cells = [("aa", (RECT,), (), ())]
        for k in range(1, 8):
            cells.append((letters(k), (), (), ((letters(k - 1), 0, 0, 0),)))
        house = tuple(cells)
        for k in range(6):
            self.assertEqual(flat(house, letters(k))[0][0], ((0, 1, ((0, 1),)),))
        self.refused(house, letters(6))
        self.refused(house, letters(7))

    def test_the_deepest_use_counts(self):
        cells = [("aa", (RECT,), (), ())]
        for k in range(1, 6):
            cells.append((letters(k), (), (), ((letters(k - 1), 0, 0, 0),)))
        self.refused(tuple(cells) + (("top", (), (), (("af", 0, 0, 0), ("aa", 0, 0, 0))),), "top")
        self.refused(tuple(cells) + (("top", (), (), (("aa", 0, 0, 0), ("af", 0, 0, 0))),), "top")
        flat(tuple(cells) + (("top", (), (), (("aa", 0, 0, 0), ("ae", 0, 0, 0))),), "top")

    def test_refused_by_counting(self):
        cells = [("aa", (RECT,), (), ())]
        for k in range(1, 12):
            cells.append((letters(k), (), (), ((letters(k - 1), 0, 0, 0),) * 20))
        house = tuple(cells)
        for k in range(2, 12):
            self.refused(house, letters(k))
        self.assertEqual(flat(house, "ab")[0][0], ((0, 1, ((0, 1),)),))

    def test_cells_that_are_not_used_do_not_count(self):
        cells = [("aa", (RECT,), (), ())]
        for k in range(1, 11):
            cells.append((letters(k), (), (), ((letters(k - 1), 0, 0, 0),) * 20))
        house = tuple(cells) + (("top", (), (), (("aa", 0, 3, 0),)),)
        self.assertEqual(flat(house, "top")[0][0], ((0, 1, ((3, 4),)),))

    def test_no_cell_comes_ahead(self):
        with self.assertRaises(NoCell):
            flat(self.laid(200, 40, 200), "none")
        with self.assertRaises(NoCell):
            flat(self.laid(200, 40, 200), ["top"])


if __name__ == "__main__":
    unittest.main()
