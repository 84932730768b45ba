"""Points 20 and 22, and 2 of them."""

import unittest

from maskwright.lists import is_list, put_together, thinned
from tests.boards import odd_things
from tests.circuits import list_of, some_list

FAR = 2 ** 21
SWITCH = ("n", 0, 1, 2, 3, 4)
GOOD = (3, (("a", 0), ("b", 1), ("b", 2)), (SWITCH, ("p", 2, 0, 0, 1, 1)))


def with_names(*names, many=3):
    return (many, names, ())


def with_switches(*switches, many=3):
    return (many, (), switches)


def exchanged(row, at, thing):
    return row[:at] + (thing,) + row[at + 1:]


class TestIsList(unittest.TestCase):
    def told(self, thing, answer):
        self.assertIs(is_list(thing), answer, thing)

    def test_lists(self):
        self.told(GOOD, True)
        self.told((0, (), ()), True)
        self.told((1, (), ()), True)
        self.told(with_switches(SWITCH, SWITCH), True)
        self.told(with_switches(("p", 0, 0, 0, FAR, FAR), many=1), True)

    def test_odd_things(self):
        for thing in odd_things():
            self.told(thing, False)
            self.told((thing, (), ()), type(thing) is int and 0 <= thing <= 40)
            self.told((3, thing, ()), False)
            self.told((3, (), thing), False)
            self.told((3, (thing,), ()), False)
            self.told((3, (), (thing,)), False)

    def test_a_thing_too_few_or_too_many(self):
        for thing in (GOOD[:2], GOOD + ((),), (), (GOOD,), with_names(("a",)), with_names(("a", 0, 0))):
            self.told(thing, False)
        self.told(with_switches(SWITCH[:5]), False)
        self.told(with_switches(SWITCH + (4,)), False)

    def test_many(self):
        for many in (-1, True, False, None, "3", (3,), 3 * 10 ** 39):
            self.told((many, (), ()), False)

    def test_lists_for_tuples(self):
        self.told(list(GOOD), False)
        self.told((3, list(GOOD[1]), GOOD[2]), False)
        self.told((3, GOOD[1], list(GOOD[2])), False)
        self.told((3, (["a", 0],), ()), False)
        self.told((3, (), (list(SWITCH),)), False)

    def test_names_that_are_none(self):
        for name in ("", "abcdefghi", "A", "a1", "a b", "{", "`", None, 0, True, ("a",), ["a"], ()):
            self.told(with_names((name, 0)), False)
        for name in ("a", "z", "abcdefgh", "up", "down"):
            self.told(with_names((name, 0)), True)

    def test_nets_of_names(self):
        for net in (-1, 3, True, False, None, "0", (0,), 10 ** 39):
            self.told(with_names(("a", net)), False)
        self.told(with_names(("a", 2)), True)
        self.told(with_names(("a", 0), many=0), False)

    def test_names_that_are_not_sorted(self):
        self.told(with_names(("b", 0), ("a", 0)), False)
        self.told(with_names(("a", 1), ("a", 0)), False)
        self.told(with_names(("a", 0), ("a", 1)), True)
        self.told(with_names(("a", 2), ("ab", 0), ("b", 0)), True)

    def test_a_name_twice(self):
        self.told(with_names(("a", 0), ("a", 0)), False)
        self.told(with_names(("a", 0), ("b", 1), ("b", 1)), False)
        self.told(with_names(("a", 0), ("b", 0)), True)

    def test_sorts(self):
        for sort in ("", "N", "g", "np", None, 0, True, ("n",), ["n"], ()):
            self.told(with_switches(exchanged(SWITCH, 0, sort)), False)
        self.told(with_switches(exchanged(SWITCH, 0, "p")), True)

    def test_nets_of_switches(self):
        for at in (1, 2, 3):
            for net in (-1, 3, True, False, None, "0", (0,), [], 10 ** 39):
                self.told(with_switches(exchanged(SWITCH, at, net)), False)
        self.told(with_switches(("n", 2, 2, 2, 1, 1)), True)
        self.told(with_switches(("n", 0, 0, 0, 1, 1), many=0), False)

    def test_one_above_other(self):
        self.told(with_switches(("n", 0, 2, 1, 3, 4)), False)
        self.told(with_switches(("n", 0, 1, 0, 3, 4)), False)
        self.told(with_switches(("n", 0, 1, 1, 3, 4)), True)

    def test_width_and_length(self):
        for at in (4, 5):
            for size in (0, -1, FAR + 1, True, False, None, "1", (1,), 10 ** 39):
                self.told(with_switches(exchanged(SWITCH, at, size)), False)
            for size in (1, FAR - 1, FAR):
                self.told(with_switches(exchanged(SWITCH, at, size)), True)

    def test_switches_that_are_not_sorted(self):
        for at in range(6):
            high = exchanged(("n", 1, 1, 1, 1, 1), at, "p" if at == 0 else 2)
            low = ("n", 1, 1, 1, 1, 1) if at != 2 else ("n", 1, 1, 2, 1, 1)
            high = ("n", 1, 2, 2, 1, 1) if at == 2 else high
            self.told(with_switches(low, high), True)
            self.told(with_switches(high, low), False)
            self.told(with_switches(low, low, high, high), True)

    def test_forty_and_one_more(self):
        names = tuple(("a", net) for net in range(40)) + (("b", 0),)
        self.told((40, (), ()), True)
        self.told((41, (), ()), False)
        self.told((40, names[:40], ()), True)
        self.told((40, names, ()), False)
        self.told((40, (), (SWITCH,) * 40), True)
        self.told((40, (), (SWITCH,) * 41), False)
        self.told((40, names[:40], (SWITCH,) * 40), True)
        self.told((40, (("a", 39),), (("n", 39, 39, 39, 1, 1),)), True)
        self.told((40, (("a", 40),), ()), False)

    def test_by_chance(self):
        for seed in range(30):
            self.told(some_list(seed, names="abc"), True)


class TestPutTogether(unittest.TestCase):
    def test_one(self):
        self.assertEqual(put_together([GOOD]), GOOD)
        self.assertEqual(put_together([(0, (), ())]), (0, (), ()))

    def test_two(self):
        told = put_together([GOOD, GOOD])
        names = (("a", 0), ("a", 3), ("b", 1), ("b", 2), ("b", 4), ("b", 5))
        switches = (SWITCH, ("n", 3, 4, 5, 3, 4), ("p", 2, 0, 0, 1, 1), ("p", 5, 3, 3, 1, 1))
        self.assertEqual(told, (6, names, switches))
        self.assertTrue(is_list(told))

    def test_nets_without_anything_count(self):
        told = put_together([(4, (), ()), (0, (), ()), (1, (("z", 0),), ()), (2, (("a", 1),), (("n", 0, 0, 1, 1, 1),))])
        self.assertEqual(told, (7, (("a", 6), ("z", 4)), (("n", 5, 5, 6, 1, 1),)))

    def test_one_to_four_by_chance(self):
        for seed in range(20):
            lists = [some_list(seed + at, many=1 + at, switches=6, names="abu") for at in range(1 + seed % 4)]
            copy = list(lists)
            names, switches, ahead = [], [], 0
            for many, own_names, own_switches in lists:
                names += [(name, net + ahead) for name, net in own_names]
                switches += [(s, g + ahead, a + ahead, b + ahead, *size) for s, g, a, b, *size in own_switches]
                ahead += many
            told = put_together(lists)
            self.assertEqual(told, (ahead, tuple(sorted(names)), tuple(sorted(switches))))
            self.assertEqual(lists, copy)
            self.assertEqual(put_together(lists), told)


def can_be_one(names, switches, low, high):
    """The switch that two become by point 22's words, or None."""
    one, other = switches[low], switches[high]
    if one[:4] == other[:4] and one[5] == other[5]:
        return one[:4] + (one[4] + other[4], one[5])
    if one[:2] != other[:2] or one[4] != other[4] or one[2] == one[3] or other[2] == other[3]:
        return None
    common = set(one[2:4]) & set(other[2:4])
    if len(common) != 1:
        return None
    (net,) = common
    rest = [switch for at, switch in enumerate(switches) if at not in (low, high)]
    if net in [at for name, at in names] or net in [switch[1] for switch in switches]:
        return None
    if any(net in switch[2:4] for switch in rest):
        return None
    ends = sorted(set(one[2:4]) ^ set(other[2:4]))
    return one[:2] + tuple(ends) + (one[4], one[5] + other[5])


def thinned_by_words(some):
    """The list thinned by trying all pairs in order, again and again."""
    many, names, switches = some
    switches = list(switches)
    while True:
        pairs = [(low, high) for low in range(len(switches)) for high in range(low + 1, len(switches))]
        for low, high in pairs:
            new = can_be_one(names, switches, low, high)
            if new is not None:
                switches = sorted([row for at, row in enumerate(switches) if at not in (low, high)] + [new])
                break
        else:
            return (many, names, tuple(switches))


class TestThinned(unittest.TestCase):
    def told(self, some, switches):
        told = thinned(some)
        self.assertEqual(told, thinned_by_words(some))
        self.assertEqual(told, (some[0], some[1], tuple(switches)))

    def stays(self, some):
        self.told(some, some[2])

    def test_nothing_to_do(self):
        self.stays((0, (), ()))
        self.stays(GOOD)

    def test_side_by_side(self):
        self.told(list_of(3, (), [("n", 0, 1, 2, 3, 4), ("n", 0, 1, 2, 5, 4)]), [("n", 0, 1, 2, 8, 4)])
        self.told(list_of(3, (), [("p", 0, 1, 2, 3, 4)] * 3), [("p", 0, 1, 2, 9, 4)])
        self.told(list_of(2, (), [("n", 0, 1, 1, 3, 4), ("n", 0, 1, 1, 1, 4)]), [("n", 0, 1, 1, 4, 4)])
        self.told(list_of(1, (), [("n", 0, 0, 0, 1, 1)] * 2), [("n", 0, 0, 0, 2, 1)])

    def test_not_side_by_side(self):
        one = ("n", 0, 1, 2, 3, 4)
        for at, thing in ((0, "p"), (1, 3), (2, 0), (3, 3), (5, 5)):
            self.stays(list_of(4, [("a", 1), ("b", 2)], [one, exchanged(one, at, thing)]))

    def test_one_behind_another(self):
        ends = [("a", 1), ("b", 3)]
        self.told(list_of(4, ends, [("n", 0, 1, 2, 3, 4), ("n", 0, 2, 3, 3, 9)]), [("n", 0, 1, 3, 3, 13)])
        self.told(list_of(4, ends, [("p", 0, 3, 2, 1, 1), ("p", 0, 2, 1, 1, 1)]), [("p", 0, 1, 3, 1, 2)])
        # The net in common may be the greatest or the least one.
        self.told(list_of(4, [("a", 1), ("b", 2)], [("n", 0, 1, 3, 3, 4), ("n", 0, 2, 3, 3, 9)]), [("n", 0, 1, 2, 3, 13)])
        self.told(list_of(4, [("a", 2), ("b", 3)], [("n", 0, 1, 2, 3, 4), ("n", 0, 1, 3, 3, 9)]), [("n", 0, 2, 3, 3, 13)])

    def test_a_chain(self):
        chain = [("n", 0, at, at + 1, 2, 1) for at in range(1, 9)]
        self.told(list_of(10, (), chain), [("n", 0, 1, 9, 2, 8)])

    def test_a_net_with_a_name(self):
        self.stays(list_of(4, [("x", 2)], [("n", 0, 1, 2, 3, 4), ("n", 0, 2, 3, 3, 9)]))

    def test_a_net_that_is_a_gate(self):
        rows = [("n", 0, 1, 2, 3, 4), ("n", 0, 2, 3, 3, 9)]
        self.stays(list_of(6, (), rows + [("p", 2, 4, 5, 1, 1)]))
        self.stays(list_of(6, (), [("n", 2, 1, 2, 3, 4), ("n", 2, 2, 3, 3, 9)]))

    def test_a_net_with_a_third_switch(self):
        rows = [("n", 0, 1, 2, 3, 4), ("n", 0, 2, 3, 3, 9)]
        self.stays(list_of(6, (), rows + [("p", 0, 2, 4, 1, 1)]))
        self.stays(list_of(6, (), rows + [("p", 0, 2, 2, 1, 1)]))

    def test_both_ends_on_one_net(self):
        self.stays(list_of(4, (), [("n", 0, 1, 2, 3, 4), ("n", 0, 2, 2, 3, 4)]))
        self.stays(list_of(4, (), [("n", 0, 2, 2, 3, 4), ("n", 0, 2, 3, 3, 4)]))

    def test_two_nets_in_common(self):
        self.stays(list_of(4, (), [("n", 0, 1, 2, 3, 4), ("n", 0, 1, 2, 3, 5)]))
        self.stays(list_of(4, (), [("n", 0, 1, 2, 3, 4), ("n", 3, 1, 2, 3, 4)]))

    def test_unlike_sort_gate_or_width(self):
        one = ("n", 0, 1, 2, 3, 4)
        for other in (("p", 0, 2, 3, 3, 4), ("n", 4, 2, 3, 3, 4), ("n", 0, 2, 3, 2, 4)):
            self.stays(list_of(5, (), [one, other]))

    def test_by_turns(self):
        # Side by side, then behind another, then side by side again.
        rows = [("n", 0, 1, 2, 1, 1), ("n", 0, 1, 2, 2, 1), ("n", 0, 2, 3, 3, 1), ("n", 0, 1, 3, 5, 2)]
        self.told(list_of(4, (), rows), [("n", 0, 1, 3, 8, 2)])

    def test_which_two_are_first(self):
        # Net 2 has two switches of width 1; the widths that side by side makes first bar or open the way.
        rows = [("n", 0, 1, 2, 1, 1), ("n", 0, 1, 2, 1, 1), ("n", 0, 2, 3, 1, 1)]
        self.told(list_of(4, (), rows), [("n", 0, 1, 2, 2, 1), ("n", 0, 2, 3, 1, 1)])
        ring = [("n", 0, 1, 2, 1, 1), ("n", 0, 2, 3, 1, 2), ("n", 0, 3, 4, 1, 4), ("n", 0, 1, 4, 1, 8)]
        self.told(list_of(5, (), ring), [("n", 0, 3, 4, 1, 4), ("n", 0, 3, 4, 1, 11)])

    def test_rings_of_alike_switches(self):
        for many in range(2, 9):
            rows = [("n", 0, 1 + at, 1 + (at + 1) % many, 1, 1) for at in range(many)]
            some = list_of(many + 1, (), rows)
            self.assertEqual(thinned(some), thinned_by_words(some))

    def test_beyond_the_bounds(self):
        rows = [("n", 0, 1, 2, FAR, 1), ("n", 0, 1, 2, FAR, 1), ("p", 0, 3, 4, 1, FAR), ("p", 0, 4, 5, 1, FAR)]
        self.told(list_of(6, (), rows), [("n", 0, 1, 2, 2 * FAR, 1), ("p", 0, 3, 5, 1, 2 * FAR)])

    def test_by_chance(self):
        fewer = 0
        for seed in range(400):
            some = some_list(seed, many=3 + seed % 9, switches=4 + seed % 11, names="ab"[:seed % 3], sizes=(1, 1, 2))
            if seed % 2:
                some = list_of(some[0] + 1, some[1], [("n", some[0], *row[2:]) for row in some[2]])
            told = thinned(some)
            self.assertEqual(told, thinned_by_words(some))
            self.assertTrue(is_list(told))
            self.assertEqual(thinned(told), told)
            fewer += len(told[2]) < len(some[2]) - 2
        self.assertGreater(fewer, 40)

    def test_forty(self):
        for seed in range(10):
            some = some_list(seed, many=14, switches=40, sizes=(1,))
            some = list_of(40, (), [("n", 39, *row[2:]) for row in some[2]])
            self.assertEqual(thinned(some), thinned_by_words(some))

    def test_what_is_handed_in_stays(self):
        some = some_list(1, many=4, switches=12)
        copy = some_list(1, many=4, switches=12)
        told = thinned(some)
        self.assertEqual(some, copy)
        self.assertEqual(thinned(some), told)


if __name__ == "__main__":
    unittest.main()
