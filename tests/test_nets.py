"""Points 17 and 18, and 2 and 3 of them."""

import random
import unittest

from maskwright.nets import conductors, net_at, nets, way
from maskwright.regions import is_region, region
from maskwright.sheets import turned_sheet
from tests.boards import (
    board, layer_places, pieces_by_places, region_of, sheet_of, sheet_of_rects, some_places, turned_place,
)

EDGE = 2 ** 20
CONDUCTING = "npgwv"


def conductors_by_places(sheet):
    """The conductors as tuples of a layer and a set of places."""
    places = layer_places(sheet)
    places["n"] = places["n"] - places["g"]
    places["p"] = places["p"] - places["g"]
    return [(layer, piece) for layer in CONDUCTING for piece in pieces_by_places(places[layer])]


def meeting_by_places(sheet):
    """For each conductor the set of those that it meets, itself left out."""
    found = conductors_by_places(sheet)
    meets = {number: set() for number in range(len(found))}
    for contact in pieces_by_places(layer_places(sheet)["k"]):
        group = {number for number, (layer, piece) in enumerate(found) if piece & contact}
        for number in group:
            meets[number] |= group - {number}
    return meets


def distances(meets, start):
    """How many steps each conductor is from a start."""
    far, edge = {start: 0}, {start}
    while edge:
        edge = {there for here in edge for there in meets[here]} - set(far)
        steps = max(far.values()) + 1
        far.update({number: steps for number in edge})
    return far


def nets_by_places(sheet):
    meets = meeting_by_places(sheet)
    groups = {tuple(sorted(distances(meets, number))) for number in meets}
    return sorted(groups)


def some_sheet(seed):
    """All layers by chance, the contacts scarce."""
    chance = random.Random(seed)
    layers = {}
    for at, layer in enumerate("npgwvk"):
        percent = chance.choice((3, 8, 15)) if layer == "k" else chance.choice((10, 25, 45, 60))
        layers[layer] = region_of(some_places(seed * 7 + at, percent=percent))
    return sheet_of(**layers)


class Nets(unittest.TestCase):
    def same(self, sheet):
        """All that is told of a sheet, against what is counted place by place."""
        told = conductors(sheet)
        self.assertIsInstance(told, list)
        self.assertTrue(all(type(row) is tuple and is_region(row[1]) for row in told))
        by_places = conductors_by_places(sheet)
        self.assertEqual(told, [(layer, region_of(piece)) for layer, piece in by_places])
        groups = nets(sheet)
        self.assertIsInstance(groups, list)
        self.assertEqual(groups, nets_by_places(sheet))
        return groups

    def same_places(self, sheet):
        net_of = {piece: number for number, net in enumerate(nets_by_places(sheet)) for piece in net}
        found = conductors_by_places(sheet)
        for layer in CONDUCTING + "k":
            for x in range(-4, 8):
                for y in range(-4, 7):
                    answer = [net_of[at] for at, (own, piece) in enumerate(found) if own == layer and (x, y) in piece]
                    self.assertEqual(net_at(sheet, layer, x, y), answer[0] if answer else None)

    def same_ways(self, sheet):
        meets = meeting_by_places(sheet)
        for one in meets:
            far = distances(meets, one)
            for other in meets:
                told = way(sheet, one, other)
                if other not in far:
                    self.assertIsNone(told)
                    continue
                self.assertIsInstance(told, tuple)
                self.assertEqual((told[0], told[-1], len(told)), (one, other, far[other] + 1))
                for ahead, here in zip(told, told[1:]):
                    self.assertIn(here, meets[ahead])


class TestConductors(Nets):
    def test_none(self):
        self.assertEqual(conductors(sheet_of()), [])
        self.assertEqual(nets(sheet_of()), [])
        self.assertEqual(conductors(sheet_of(k=board("###"))), [])
        self.assertEqual(nets(sheet_of(k=board("###"))), [])

    def test_by_layers_and_first_places(self):
        dot = board("..#", "", "#")
        told = conductors(sheet_of(n=dot, p=dot, w=dot, v=dot, k=dot))
        one, other = region([(2, 0, 3, 1)]), region([(0, 2, 1, 3)])
        self.assertEqual(told, [(layer, some) for layer in "npwv" for some in (one, other)])

    def test_ground_without_gates(self):
        sheet = sheet_of(n=board("#####"), p=board("", "", "###"), g=board("..#", "..#", "..#"))
        self.assertEqual(conductors(sheet), [
            ("n", region([(0, 0, 2, 1)])), ("n", region([(3, 0, 5, 1)])), ("p", region([(0, 2, 2, 3)])),
            ("g", region([(2, 0, 3, 3)])),
        ])
        self.assertEqual(self.same(sheet), [(0,), (1,), (2,), (3,)])

    def test_wires_over_gates_stay_whole(self):
        sheet = sheet_of(w=board("#####"), v=board("#####"), g=board("..#"))
        self.assertEqual([row[0] for row in conductors(sheet)], ["g", "w", "v"])
        self.assertEqual(nets(sheet), [(0,), (1,), (2,)])

    def test_ground_all_under_gates(self):
        self.assertEqual(conductors(sheet_of(n=board("##"), g=board("###"))), [("g", board("###"))])

    def test_corners_alone_part(self):
        self.assertEqual(len(conductors(sheet_of(w=board("#.", ".#")))), 2)


class TestNets(Nets):
    def test_over_one_contact(self):
        sheet = sheet_of(n=board("###"), w=board(".####"), k=board(".#"))
        self.assertEqual(self.same(sheet), [(0, 1)])

    def test_over_several(self):
        sheet = sheet_of(n=board("###...###"), w=board("..#####"), k=board("..#...#"))
        self.assertEqual(self.same(sheet), [(0, 1, 2)])

    def test_over_none(self):
        sheet = sheet_of(n=board("###"), w=board("###"), v=board("###"))
        self.assertEqual(self.same(sheet), [(0,), (1,), (2,)])
        self.assertEqual(self.same(sheet_of(n=board("###"), w=board("..###"), k=board("#...#"))), [(0,), (1,)])

    def test_a_contact_on_three_layers(self):
        sheet = sheet_of(n=board("##"), g=board("..##"), v=board("....##"), k=board(".####"))
        self.assertEqual(self.same(sheet), [(0, 1, 2)])

    def test_a_contact_on_two_pieces_of_a_layer(self):
        sheet = sheet_of(w=board("##.##"), k=board(".###"))
        self.assertEqual(self.same(sheet), [(0, 1)])

    def test_a_contact_that_touches_only_beside(self):
        self.assertEqual(self.same(sheet_of(n=board("##"), w=board("..##"), k=board("..##"))), [(0,), (1,)])
        self.assertEqual(self.same(sheet_of(n=board("##"), w=board("", "..##"), k=board("", "..#"))), [(0,), (1,)])

    def test_a_contact_on_ground_under_a_gate(self):
        sheet = sheet_of(n=board("#####"), g=board("..#"), w=board("..#"), k=board("..#"))
        self.assertEqual(self.same(sheet), [(0,), (1,), (2, 3)])

    def test_pieces_of_contacts_do_not_lead_over_corners(self):
        sheet = sheet_of(w=board("#"), v=board("", ".#"), k=board("#.", ".#"))
        self.assertEqual(self.same(sheet), [(0,), (1,)])

    def test_by_their_least_pieces(self):
        sheet = sheet_of(w=board("#.#.#"), v=board("....#", "", "#"), k=board("....#"))
        self.assertEqual(self.same(sheet), [(0,), (1,), (2, 3), (4,)])

    def test_by_chance(self):
        for seed in range(120):
            self.same(some_sheet(seed))

    def test_great_numbers(self):
        wide, tall = region([(-2 * EDGE, 0, 2 * EDGE, 1)]), region([(7, -2 * EDGE, 8, 2 * EDGE)])
        sheet = sheet_of(w=wide, v=tall, k=region([(7, 0, 8, 1)]))
        self.assertEqual(nets(sheet), [(0, 1)])
        self.assertEqual(net_at(sheet, "w", 2 * EDGE - 1, 0), 0)
        self.assertIsNone(net_at(sheet, "w", 2 * EDGE, 0))
        self.assertIsNone(net_at(sheet, "v", 10 ** 39, -10 ** 39))

    def test_many(self):
        bars = region([(3 * at, 0, 3 * at + 1, 600) for at in range(100)])
        rows = region([(0, 3 * at, 600, 3 * at + 1) for at in range(100)])
        dots = region([(3 * at, 3 * at, 3 * at + 1, 3 * at + 1) for at in range(100)])
        self.assertEqual(nets(sheet_of(w=bars, v=rows, k=dots)), [(at, at + 100) for at in range(100)])


class TestNetAt(Nets):
    def test_each_layer(self):
        sheet = sheet_of(n=board("#"), p=board(".#"), g=board("..#"), w=board("...#"), v=board("....#"), k=board("#####"))
        self.assertEqual([net_at(sheet, layer, at, 0) for at, layer in enumerate(CONDUCTING)], [0] * 5)
        sheet = sheet_of(n=board("#"), p=board(".#"), g=board("..#"), w=board("...#"), v=board("....#"))
        self.assertEqual([net_at(sheet, layer, at, 0) for at, layer in enumerate(CONDUCTING)], [0, 1, 2, 3, 4])

    def test_under_gates_and_on_contacts(self):
        sheet = sheet_of(n=board("###"), p=board("###"), g=board(".#."), k=board(".#."), w=board("###"))
        told = [[net_at(sheet, layer, x, 0) for x in range(-1, 4)] for layer in "npgwvk"]
        nothing = [None] * 5
        self.assertEqual(told, [
            [None, 0, None, 1, None], [None, 2, None, 3, None], [None, None, 4, None, None],
            [None, 4, 4, 4, None], nothing, nothing,
        ])

    def test_by_chance(self):
        for seed in range(12):
            self.same_places(some_sheet(seed))


class TestWay(Nets):
    def test_to_itself(self):
        sheet = sheet_of(w=board("#.#"), k=board("#"))
        self.assertEqual((way(sheet, 0, 0), way(sheet, 1, 1)), ((0,), (1,)))

    def test_to_one_that_meets_it(self):
        sheet = sheet_of(n=board("##"), w=board("##"), k=board("#"))
        self.assertEqual((way(sheet, 0, 1), way(sheet, 1, 0)), ((0, 1), (1, 0)))

    def test_as_few_as_can_be(self):
        # Wires 0 to 4 in a row, each under the next one's contact, and a strip on v from the first to the last.
        rects = [("w", 4 * at, 2 * (at % 2), 4 * at + 5, 2 * (at % 2) + 1) for at in range(5)]
        rects += [("k", 4 * at + 4, 0, 4 * at + 5, 3) for at in range(4)]
        sheet = sheet_of_rects(*rects)
        self.assertEqual(len(conductors(sheet)), 5)
        self.assertEqual(len(way(sheet, *self.outer(sheet))), 5)
        sheet = sheet_of_rects(*rects, ("v", 0, -3, 20, -2), ("v", 0, -3, 1, 1), ("v", 19, -3, 20, 1),
                               ("k", 0, 0, 1, 1), ("k", 19, 0, 20, 1))
        told = way(sheet, *self.outer(sheet))
        self.assertEqual(len(told), 3)
        self.assertEqual(conductors(sheet)[told[1]][0], "v")
        self.same_ways(sheet)

    def outer(self, sheet):
        """The numbers of the wires with the least and the greatest x."""
        firsts = [(some[0][2][0][0], at) for at, (layer, some) in enumerate(conductors(sheet)) if layer == "w"]
        return min(firsts)[1], max(firsts)[1]

    def test_none_between_two_nets(self):
        sheet = sheet_of(w=board("#.#"), v=board("#.#"), k=board("#.#"))
        self.assertEqual(nets(sheet), [(0, 2), (1, 3)])
        self.assertIsNone(way(sheet, 0, 1))
        self.assertIsNone(way(sheet, 3, 2))

    def test_by_chance(self):
        for seed in range(8):
            self.same_ways(some_sheet(seed))


class TestTurned(Nets):
    def test_places_of_one_net_stay_so(self):
        for seed in range(6):
            sheet = some_sheet(seed)
            for turn in range(8):
                other = turned_sheet(sheet, turn, 5, -9)
                renamed = {}
                for layer, places in layer_places(sheet).items():
                    for place in places:
                        net = net_at(sheet, layer, *place)
                        there = net_at(other, layer, *turned_place(place, turn, 5, -9))
                        self.assertEqual(renamed.setdefault(net, there), there)
                self.assertEqual(len(set(renamed.values())), len(renamed))


class TestAskedAgain(Nets):
    def test_the_lists_are_the_askers_own(self):
        sheet = some_sheet(5)
        for ask in (conductors, nets):
            told = ask(sheet)
            copy = list(told)
            self.assertGreater(len(copy), 2)
            told.reverse()
            told.pop()
            self.assertEqual(ask(sheet), copy)
        self.assertEqual(sheet, some_sheet(5))
        self.assertEqual(way(sheet, 0, 0), (0,))


if __name__ == "__main__":
    unittest.main()
