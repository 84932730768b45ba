"""Points 19 and 21, and 2 and 3 of them."""

import random
import unittest

from maskwright.errors import NoSwitch
from maskwright.lists import is_list, put_together
from maskwright.nets import conductors, net_at, nets
from maskwright.regions import region
from maskwright.sheets import laid_over, turned_sheet
from maskwright.switches import faults, listed
from tests.boards import (
    board, by_order, is_full_rect, layer_places, pieces_by_places, rows_behind_sides, sheet_of, sheet_of_rects,
    turned_place,
)
from tests.circuits import renamed

EDGE = 2 ** 20

# A turner: two switches whose gates are one, with wires at their ends.
TURNER = (
    ("n", 0, 0, 12, 6), ("p", 0, 10, 12, 16), ("g", 5, -2, 7, 18),
    ("w", 0, 0, 4, 6), ("w", 0, 10, 4, 16), ("w", 8, 0, 12, 16),
    ("k", 1, 2, 3, 4), ("k", 1, 12, 3, 14), ("k", 9, 2, 11, 4), ("k", 9, 12, 11, 14),
)
TURNER_MARKS = (("a", "g", 5, 8), ("down", "w", 0, 0), ("q", "w", 9, 8), ("up", "p", 0, 10))


def switch_by_places(places, sort, channel):
    """Width, length and a place behind each of its ends of the switch that a channel is, or None."""
    if not is_full_rect(channel):
        return None
    pairs = rows_behind_sides(channel, 1)
    for ends, others in (pairs, pairs[::-1]):
        if not all(row <= places[sort] and not row & places["g"] for row in ends):
            continue
        if any(row & places[sort] for row in others):
            continue
        return len(ends[0]), len(others[0]), [min(row) for row in ends]
    return None


def listed_by_places(sheet):
    """The list of a sheet by point 19's and 21's words, or the first place of a channel that is no switch."""
    places = layer_places(sheet)
    switches, wrong = [], []
    for sort in "np":
        for channel in pieces_by_places(places["g"] & places[sort]):
            found = switch_by_places(places, sort, channel)
            if found is None:
                wrong.append(by_order(channel)[0])
                continue
            width, length, ends = found
            one, other = sorted(net_at(sheet, sort, *place) for place in ends)
            switches.append((sort, net_at(sheet, "g", *min(channel)), one, other, width, length))
    if wrong:
        return by_order(wrong)[0]
    names = {(name, net_at(sheet, layer, x, y)) for name, layer, x, y in sheet[1]}
    return (len(nets(sheet)), tuple(sorted(row for row in names if row[1] is not None)), tuple(sorted(switches)))


def some_sheet(seed, bars):
    """Bars of gates over bars of ground by chance, wires, contacts and marks."""
    chance = random.Random(seed)
    rects = []
    for _ in range(bars):
        x, y = chance.randrange(0, 20), chance.randrange(0, 20)
        sort = chance.choice("np")
        rects.append((sort, x, y, x + chance.randrange(3, 12), y + chance.randrange(1, 4)))
        x, y = chance.randrange(0, 20), chance.randrange(0, 20)
        rects.append(("g", x, y, x + chance.randrange(1, 3), y + chance.randrange(3, 12)))
        rects.append((chance.choice("wv"), x - 2, y, x + 3, y + 1))
        rects.append(("k", x, y, x + 1, y + 1))
    marks = {
        (chance.choice("abcd"), chance.choice("npgwv"), chance.randrange(0, 24), chance.randrange(0, 24))
        for _ in range(20)
    }
    return sheet_of_rects(*rects, marks=marks)


class Switches(unittest.TestCase):
    def told(self, sheet):
        """What is told of a sheet, a list or the place of the refusal."""
        try:
            return listed(sheet)
        except NoSwitch as refusal:
            return (refusal.x, refusal.y)

    def same(self, sheet):
        told = self.told(sheet)
        self.assertEqual(told, listed_by_places(sheet), sheet)
        return told

    def refused(self, sheet, x, y):
        with self.assertRaises(NoSwitch) as caught:
            listed(sheet)
        self.assertEqual((caught.exception.x, caught.exception.y), (x, y))
        self.same(sheet)


class TestListed(Switches):
    def test_none(self):
        self.assertEqual(listed(sheet_of()), (0, (), ()))
        self.assertEqual(self.same(sheet_of(n=board("##"), w=board("#.#"))), (3, (), ()))

    def test_upright_and_lying(self):
        sheet = sheet_of_rects(("n", 0, 0, 9, 4), ("g", 3, -2, 5, 6))
        self.assertEqual(self.same(sheet), (3, (), (("n", 2, 0, 1, 4, 2),)))
        sheet = sheet_of_rects(("n", 0, 0, 4, 9), ("g", -2, 3, 6, 5))
        self.assertEqual(self.same(sheet), (3, (), (("n", 2, 0, 1, 4, 2),)))

    def test_both_sorts(self):
        sheet = sheet_of_rects(("p", 0, 0, 9, 4), ("g", 3, -2, 8, 6))
        self.assertEqual(self.same(sheet), (3, (), (("p", 2, 0, 1, 4, 5),)))
        sheet = sheet_of_rects(("p", 0, 0, 9, 4), ("n", 0, 10, 7, 11), ("g", 3, -2, 5, 26))
        self.assertEqual(self.same(sheet), (5, (), (("n", 4, 0, 1, 1, 2), ("p", 4, 2, 3, 4, 2))))

    def test_a_turner(self):
        sheet = sheet_of_rects(*TURNER, marks=TURNER_MARKS)
        told = self.same(sheet)
        net = {name: number for name, number in told[1]}
        self.assertEqual(sorted(net), ["a", "down", "q", "up"])
        self.assertEqual(told[0], 4)
        low, high = sorted((net["down"], net["q"])), sorted((net["up"], net["q"]))
        self.assertEqual(told[2], (("n", net["a"], *low, 6, 2), ("p", net["a"], *high, 6, 2)))
        self.assertTrue(is_list(told))

    def test_one_not_above_other(self):
        # A wire joins the right end to a piece of n with a lesser number.
        sheet = sheet_of_rects(
            ("n", 0, -9, 2, -7), ("n", 4, 0, 9, 1), ("g", 6, -2, 7, 3), ("w", 0, -9, 2, 1), ("w", 0, 0, 5, 1),
            ("k", 0, -9, 1, -8), ("k", 4, 0, 5, 1),
        )
        self.assertEqual(self.same(sheet), (3, (), (("n", 2, 0, 1, 1, 1),)))
        self.assertEqual(nets(sheet)[0], (0, 1, 4))
        turned = turned_sheet(sheet, 4, 0, 0)
        self.assertEqual(self.same(turned), (3, (), (("n", 2, 0, 1, 1, 1),)))

    def test_both_ends_on_one_net(self):
        ring = board("#####", "#...#", "#...#", "#####")
        sheet = sheet_of(n=ring, g=board("..#", "", "", ""))
        self.assertEqual(self.same(sheet), (2, (), (("n", 1, 0, 0, 1, 1),)))

    def test_the_gate_is_an_end(self):
        sheet = sheet_of_rects(
            ("n", 0, 0, 9, 1), ("g", 4, -3, 5, 3), ("w", 0, -3, 5, -2), ("w", 0, -3, 1, 1),
            ("k", 4, -3, 5, -2), ("k", 0, 0, 1, 1),
        )
        self.assertEqual(self.same(sheet), (2, (), (("n", 0, 0, 1, 1, 1),)))

    def test_two_gates_side_by_side(self):
        sheet = sheet_of_rects(("n", 0, 0, 9, 2), ("g", 2, -1, 3, 3), ("g", 5, -1, 7, 3))
        self.assertEqual(self.same(sheet), (5, (), (("n", 3, 0, 1, 2, 1), ("n", 4, 1, 2, 2, 2))))

    def test_alike_switches_stand_twice(self):
        ground = board("#####", "#...#", "#####", "", "")
        told = self.same(sheet_of(n=ground, g=region([(2, -1, 3, 5)])))
        self.assertEqual(told, (3, (), (("n", 2, 0, 1, 1, 1), ("n", 2, 0, 1, 1, 1))))

    def test_other_ground_beside_is_nothing(self):
        sheet = sheet_of_rects(("n", 0, 0, 9, 4), ("g", 3, -2, 5, 6), ("p", 3, 4, 5, 5), ("p", 3, 5, 5, 6))
        self.refused(sheet, 3, 4)
        sheet = sheet_of_rects(("n", 0, 0, 9, 4), ("g", 3, -2, 5, 6), ("p", 0, 4, 9, 5), ("p", 0, -1, 9, 0))
        self.assertEqual(len(self.same(sheet)[2]), 3)

    def test_ground_farther_off_is_nothing(self):
        sheet = sheet_of_rects(("n", 0, 0, 9, 2), ("g", 3, -1, 5, 8), ("n", 0, 3, 9, 5))
        self.assertEqual(len(self.same(sheet)[2]), 2)
        # Beside the gate's corner there may be ground: it is behind no side.
        sheet = sheet_of_rects(("n", 0, 0, 9, 2), ("n", 0, 2, 3, 3), ("n", 5, 2, 9, 3), ("g", 3, -1, 5, 8))
        self.assertEqual(len(self.same(sheet)[2]), 1)

    def test_one_row_is_enough(self):
        sheet = sheet_of_rects(("n", 0, 0, 4, 3), ("g", 1, -1, 3, 4))
        self.assertEqual(self.same(sheet)[2], (("n", 2, 0, 1, 3, 2),))
        # The gate itself need not lead beyond the ground.
        self.assertEqual(len(self.same(sheet_of_rects(("n", 0, 0, 4, 3), ("g", 1, 0, 3, 3)))[2]), 1)

    def test_great_numbers(self):
        sheet = sheet_of(n=region([(-EDGE, -EDGE, EDGE, EDGE)]), g=region([(-5, -EDGE, EDGE - 1, EDGE)]))
        self.assertEqual(listed(sheet), (3, (), (("n", 2, 0, 1, 2 * EDGE, EDGE + 4),)))
        wide = sheet_of(n=region([(-2 * EDGE, 0, 2 * EDGE, 1)]), g=region([(1 - 2 * EDGE, 0, 2 * EDGE - 1, 1)]))
        self.assertEqual(listed(wide), (3, (), (("n", 2, 0, 1, 1, 4 * EDGE - 2),)))

    def test_many(self):
        gates = region([(6 * at, -9, 6 * at + 2, 700) for at in range(100)])
        grounds = region([(-9, 6 * at, 700, 6 * at + 3) for at in range(100)])
        many, names, switches = listed(sheet_of(g=gates, p=grounds))
        self.assertEqual((many, names, len(switches)), (100 * 101 + 100, (), 10000))
        self.assertEqual(switches[:2], (("p", 10100, 0, 1, 3, 2), ("p", 10100, 101, 102, 3, 2)))

    def test_by_chance(self):
        lists = refusals = 0
        for seed in range(300):
            told = self.same(some_sheet(seed, 1 + seed % 5))
            lists, refusals = lists + (len(told) == 3 and len(told[2]) > 0), refusals + (len(told) == 2)
        self.assertGreater(min(lists, refusals), 20)


class TestNames(Switches):
    def test_by_marks(self):
        marks = (("b", "n", 0, 0), ("a", "n", 8, 0), ("g", "g", 3, 0), ("c", "n", 3, 0), ("d", "w", 0, 0))
        sheet = sheet_of_rects(("n", 0, 0, 9, 4), ("g", 3, -2, 5, 6), marks=marks)
        self.assertEqual(self.same(sheet)[1], (("a", 1), ("b", 0), ("g", 2)))

    def test_a_name_twice_on_one_net_once(self):
        marks = (("a", "w", 0, 0), ("a", "w", 1, 0), ("a", "v", 1, 0), ("b", "w", 1, 0))
        sheet = sheet_of(marks, w=board("##"), v=board(".#"), k=board(".#"))
        self.assertEqual(self.same(sheet), (1, (("a", 0), ("b", 0)), ()))

    def test_a_name_on_two_nets(self):
        sheet = sheet_of((("a", "w", 0, 0), ("a", "w", 2, 0)), w=board("#.#"))
        self.assertEqual(self.same(sheet), (2, (("a", 0), ("a", 1)), ()))

    def test_sorted_by_names_then_nets(self):
        marks = (("b", "w", 0, 0), ("a", "w", 4, 0), ("ab", "w", 2, 0), ("b", "w", 2, 0), ("b", "w", 4, 0))
        told = self.same(sheet_of(marks, w=board("#.#.#")))[1]
        self.assertEqual(told, (("a", 2), ("ab", 1), ("b", 0), ("b", 1), ("b", 2)))


class TestNoSwitch(Switches):
    def test_no_rectangle(self):
        self.refused(sheet_of(n=board("####", "####", "####"), g=board(".#", ".##", ".#")), 1, 0)

    def test_ground_lacks_behind_one_side(self):
        for ground in ((0, 0, 5, 4), (3, 0, 9, 4), (3, 0, 5, 4)):
            self.refused(sheet_of_rects(("n",) + ground, ("g", 3, -2, 5, 6)), 3, 0)

    def test_ground_one_place_too_short_behind_a_side(self):
        for lone in ((0, 0, 3, 3), (0, 1, 3, 4)):
            sheet = sheet_of_rects(("n",) + lone, ("n", 3, 0, 9, 4), ("g", 3, -2, 5, 6))
            self.refused(sheet, 3, 0)
            self.refused(turned_sheet(sheet, 1, 0, 0), -4, 3)

    def test_ground_at_the_other_pair(self):
        for more in ((3, 4, 4, 5), (4, -1, 5, 0), (3, -2, 5, 0)):
            sheet = sheet_of_rects(("n", 0, 0, 9, 4), ("g", 3, 0, 5, 4), ("n",) + more)
            self.refused(sheet, 3, 0)

    def test_at_a_corner(self):
        sheet = sheet_of_rects(("n", 0, 0, 6, 2), ("n", 4, 2, 6, 9), ("g", 4, -3, 6, 2))
        self.refused(sheet, 4, 0)
        sheet = sheet_of_rects(("n", 0, 0, 6, 2), ("n", 4, 2, 6, 9), ("g", 4, 0, 9, 2))
        self.refused(sheet, 4, 0)

    def test_ground_all_under_the_gate(self):
        self.refused(sheet_of_rects(("p", 3, 4, 5, 6), ("g", 0, 0, 9, 9)), 3, 4)

    def test_the_first_by_y_then_x_of_both_sorts(self):
        dot_n, dot_p = ("n", 5, 7, 6, 8), ("p", 3, 7, 4, 8)
        gates = (("g", 5, 7, 6, 8), ("g", 3, 7, 4, 8), ("g", 9, 2, 10, 3), ("g", 0, 7, 1, 8))
        self.refused(sheet_of_rects(dot_n, dot_p, *gates), 3, 7)
        self.refused(sheet_of_rects(dot_n, dot_p, ("n", 9, 2, 10, 3), *gates), 9, 2)
        self.refused(sheet_of_rects(dot_n, dot_p, ("p", 9, 2, 10, 3), *gates), 9, 2)
        self.refused(sheet_of_rects(dot_n, dot_p, ("p", 0, 7, 1, 8), *gates), 0, 7)

    def test_switches_ahead_of_it_do_not_matter(self):
        good = (("n", 0, 0, 9, 2), ("g", 3, -1, 5, 3))
        self.refused(sheet_of_rects(*good, ("n", 20, 20, 21, 21), ("g", 20, 20, 21, 21)), 20, 20)

    def test_below_0(self):
        self.refused(sheet_of_rects(("n", -9, -8, -7, -6), ("g", -9, -8, -7, -6)), -9, -8)


class TestFaults(Switches):
    def told_faults(self, sheet, loose, split, short):
        told = faults(sheet)
        self.assertEqual(told, (loose, split, short))
        self.assertTrue(all(type(part) is tuple for part in told))

    def test_none_of_each(self):
        self.told_faults(sheet_of(), (), (), ())
        self.told_faults(sheet_of((("a", "w", 0, 0), ("b", "w", 2, 0)), w=board("#.#")), (), (), ())

    def test_loose(self):
        marks = (("b", "n", 1, 0), ("a", "w", 7, 7), ("a", "n", 0, 0), ("c", "g", 0, 0), ("a", "n", 9, 9))
        sheet = sheet_of(marks, n=board("###"), g=board(".#."), k=board("###"))
        loose = (("a", "n", 9, 9), ("a", "w", 7, 7), ("b", "n", 1, 0), ("c", "g", 0, 0))
        self.told_faults(sheet, loose, (), ())

    def test_names_on_two_nets(self):
        marks = [(name, "w", x, 0) for name, x in (("b", 0), ("b", 2), ("a", 4), ("a", 6), ("c", 8), ("c", 9))]
        sheet = sheet_of(marks, w=board("#.#.#.#.##"))
        self.told_faults(sheet, (), ("a", "b"), ())

    def test_nets_of_two_names(self):
        marks = [(name, "w", x, 0) for name, x in (("d", 0), ("c", 1), ("b", 3), ("e", 3), ("a", 4), ("z", 6))]
        sheet = sheet_of(marks, w=board("##.##.#"))
        self.told_faults(sheet, (), (), (("a", "b", "e"), ("c", "d")))

    def test_nets_of_two_names_are_sorted_by_all_of_them(self):
        marks = [(name, "w", x, 0) for name, x in (("a", 0), ("c", 0), ("a", 2), ("b", 2), ("a", 4), ("b", 4), ("d", 4))]
        self.told_faults(sheet_of(marks, w=board("#.#.#")), (), ("a", "b"), (("a", "b"), ("a", "b", "d"), ("a", "c")))

    def test_a_tuple_of_names_for_each_net(self):
        marks = [(name, "w", x, 0) for name in "ba" for x in (0, 2)]
        self.told_faults(sheet_of(marks, w=board("#.#")), (), ("a", "b"), (("a", "b"), ("a", "b")))

    def test_a_name_twice_on_one_net_is_no_fault(self):
        marks = (("a", "w", 0, 0), ("a", "v", 0, 0), ("a", "w", 1, 0))
        self.told_faults(sheet_of(marks, w=board("##"), v=board("#"), k=board("#")), (), (), ())

    def test_over_contacts(self):
        marks = (("a", "w", 0, 0), ("a", "v", 0, 0), ("b", "v", 1, 0))
        self.told_faults(sheet_of(marks, w=board("##"), v=board("##"), k=board("#")), (), (), (("a", "b"),))
        self.told_faults(sheet_of(marks, w=board("##"), v=board("##")), (), ("a",), (("a", "b"),))

    def test_all_of_them_though_a_channel_is_no_switch(self):
        marks = (("a", "n", 0, 0), ("a", "w", 0, 0), ("b", "w", 0, 0), ("c", "n", 5, 5))
        sheet = sheet_of(marks, n=board("#.#"), w=board("#"), g=board("..#"))
        with self.assertRaises(NoSwitch):
            listed(sheet)
        self.told_faults(sheet, (("c", "n", 5, 5),), ("a",), (("a", "b"),))

    def test_by_chance(self):
        for seed in range(80):
            sheet = some_sheet(seed, 3)
            found = [(mark, net_at(sheet, *mark[1:])) for mark in sheet[1]]
            loose = [mark for mark, net in found if net is None]
            on = {(mark[0], net) for mark, net in found if net is not None}
            split = {name for name, net in on if len({at for other, at in on if other == name}) > 1}
            groups = [tuple(sorted(name for name, at in on if at == net)) for net in range(len(nets(sheet)))]
            short = sorted(group for group in groups if len(group) > 1)
            self.told_faults(sheet, tuple(sorted(loose)), tuple(sorted(split)), tuple(short))


def good_sheets(many):
    """Sheets by chance whose channels are switches all."""
    found, seed = [], 0
    while len(found) < many:
        sheet = some_sheet(seed, 1 + seed % 4)
        told = listed_by_places(sheet)
        if len(told) == 3 and told[2]:
            found.append(sheet)
        seed += 1
    return found + [sheet_of_rects(*TURNER, marks=TURNER_MARKS)]


class TestTheSameButForNumbers(Switches):
    def net_places(self, sheet):
        """For each net a place of it with its layer."""
        found = conductors(sheet)
        return [(found[net[0]][0], found[net[0]][1][0][2][0][0], found[net[0]][1][0][0]) for net in nets(sheet)]

    def test_turned_and_mirrored(self):
        for sheet in good_sheets(10):
            told = listed(sheet)
            for turn in range(8):
                other = turned_sheet(sheet, turn, -3, 8)
                new = [net_at(other, layer, *turned_place((x, y), turn, -3, 8)) for layer, x, y in self.net_places(sheet)]
                self.assertEqual(listed(other), renamed(told, new))

    def test_refused_when_turned_too(self):
        for seed in range(40):
            sheet = some_sheet(seed, 4)
            told = [len(self.told(turned_sheet(sheet, turn, 0, 0))) for turn in range(8)]
            self.assertEqual(len(set(told)), 1)

    def test_faults_when_turned(self):
        for seed in range(10):
            sheet = some_sheet(seed, 3)
            loose, split, short = faults(sheet)
            for turn in range(8):
                told = faults(turned_sheet(sheet, turn, 2, 1))
                moved = sorted((name, layer) + turned_place((x, y), turn, 2, 1) for name, layer, x, y in loose)
                self.assertEqual(told, (tuple(moved), split, short))

    def test_laid_over_one_another_far_apart(self):
        sheets = good_sheets(8)
        for one, other in zip(sheets, sheets[1:]):
            moved = turned_sheet(other, 3, 100, 7)
            over = laid_over(one, moved)
            new = [net_at(over, *place) for place in self.net_places(one) + self.net_places(moved)]
            self.assertEqual(listed(over), renamed(put_together([listed(one), listed(moved)]), new))


class TestAskedAgain(Switches):
    def test_the_same(self):
        sheet = sheet_of_rects(*TURNER, marks=TURNER_MARKS)
        told = listed(sheet), faults(sheet)
        self.refused(sheet_of(n=board("#"), g=board("#")), 0, 0)
        self.assertEqual((listed(sheet), faults(sheet)), told)
        self.assertEqual(sheet, sheet_of_rects(*TURNER, marks=TURNER_MARKS))


if __name__ == "__main__":
    unittest.main()
