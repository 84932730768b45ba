"""Point 30, and 2 and 3 of it."""

import unittest

from maskwright.errors import NoGiven
from maskwright.ways import are_ways, ways
from maskwright.worths import round_on
from tests.boards import odd_things
from tests.circuits import closed_by_words, driven_by_words, given_list, is_refused, is_strong, list_of

ENDS = [("down", 0), ("up", 1)]
STRONG, WEAK = (2, 1), (1, 2)


def all_ways(some, driven, switches, net):
    """All ways over unlike nets to a net that is not driven, as tuples (bit, switches), by walking them all."""
    found = []

    def walk(here, way, seen):
        for number in switches:
            one, other = some[2][number][2:4]
            if here not in (one, other):
                continue
            there = other if here == one else one
            if there in driven:
                found.append((driven[there], (number,) + way))
            elif there not in seen:
                walk(there, (number,) + way, seen | {there})

    walk(net, (), {net})
    return found


def ways_by_words(some, given, worths, net):
    """For each bit that decides, the strength and all ways of as few switches as can be: (bit, strength, ways)."""
    driven = driven_by_words(some, given)
    if net in driven:
        return []
    closed = closed_by_words(some, given, worths)
    strong = [number for number in closed if is_strong(some[2][number])]
    for strength, switches in (("strong", strong), ("weak", closed)):
        found = all_ways(some, driven, switches, net)
        told = []
        for bit in (0, 1):
            own = [way for own_bit, way in found if own_bit == bit]
            if own:
                least = min(map(len, own))
                told.append((bit, strength, {way for way in own if len(way) == least}))
        if told:
            return told
    return []


class Ways(unittest.TestCase):
    def same(self, some, given, worths, net):
        """What is told, against all ways walked; and the looker's word of each of them."""
        answer = ways_by_words(some, given, worths, net)
        told = ways(some, given, worths, net)
        self.assertIsInstance(told, list)
        self.assertEqual([row[:2] for row in told], [row[:2] for row in answer])
        for row, (bit, strength, good) in zip(told, answer):
            self.assertEqual((type(row), len(row), type(row[2])), (tuple, 3, tuple))
            self.assertIn(row[2], good)
        self.looked(some, given, worths, net, told, True)
        for at, (bit, strength, good) in enumerate(answer):
            for way in good:
                self.looked(some, given, worths, net, told[:at] + [(bit, strength, way)] + told[at + 1:], True)
        return told

    def looked(self, some, given, worths, net, thing, answer):
        self.assertIs(are_ways(some, given, worths, net, thing), answer, (some, given, worths, net, thing))

    def each_change_is_seen(self, some, given, worths, net):
        """With a part of what is told exchanged the looker says no, but where it is another such way."""
        told = self.same(some, given, worths, net)
        answer = ways_by_words(some, given, worths, net)
        many = len(some[2])
        for at, (bit, strength, way) in enumerate(told):
            news = [(new, strength, way) for new in (1 - bit, bool(bit), 2, None, str(bit))]
            news += [(bit, new, way) for new in ("strong", "weak", "", None, 0) if new != strength]
            news += [(bit, strength, new) for new in (list(way), way[1:], way[:-1], way + way[-1:], (), None, "01")]
            news += [(bit, strength, way[:k] + (new,) + way[k + 1:]) for k in range(len(way))
                     for new in (True, False, None, -1, many, str(way[k]), (way[k],), way[k] - many)]
            news += [(bit, strength), (bit, strength, way, ()), [bit, strength, way], (strength, bit, way)]
            for new in news:
                self.looked(some, given, worths, net, told[:at] + [new] + told[at + 1:], False)
            for k in range(len(way)):
                for number in range(many):
                    new = way[:k] + (number,) + way[k + 1:]
                    thing = told[:at] + [(bit, strength, new)] + told[at + 1:]
                    self.looked(some, given, worths, net, thing, new in answer[at][2])
            self.looked(some, given, worths, net, told[:at] + told[at + 1:], False)
            self.looked(some, given, worths, net, told[:at + 1] + told[at:], False)
        self.looked(some, given, worths, net, tuple(told), False)
        self.looked(some, given, worths, net, [told], False)
        if len(told) == 2:
            self.looked(some, given, worths, net, told[::-1], False)


class TestWays(Ways):
    def test_none(self):
        some = list_of(4, ENDS + [("a", 2)], [("n", 1, 0, 2, 1, 1), ("p", 1, 1, 3, 1, 1)])
        for net in (0, 1, 2):
            self.assertEqual(self.same(some, (("a", 1),), (0, 1, 1, 0), net), [])
        self.assertEqual(self.same(some, (("a", 1),), (0, 1, 1, 0), 3), [])
        for net in range(4):
            self.looked(some, (("a", 1),), (0, 1, 1, 0), net, [], True)
            for thing in ((), None, [()], [[]], [(0, "strong", (0,))], False):
                self.looked(some, (("a", 1),), (0, 1, 1, 0), net, thing, False)

    def test_one_bit(self):
        some = list_of(3, ENDS, [("n", 1, 1, 2, 1, 1)])
        self.assertEqual(self.same(some, (), (0, 0, 0), 2), [(1, "strong", (0,))])
        some = list_of(3, ENDS, [("n", 1, 0, 2, 1, 2)])
        self.assertEqual(self.same(some, (), (0, 0, 0), 2), [(0, "weak", (0,))])

    def test_two_bits_0_ahead(self):
        some = list_of(3, ENDS, [("n", 1, 1, 2, 1, 1), ("p", 0, 0, 2, 1, 1)])
        self.assertEqual(self.same(some, (), (0, 0, 0), 2), [(0, "strong", (1,)), (1, "strong", (0,))])
        some = list_of(3, ENDS, [("n", 1, 1, 2, 1, 2), ("p", 0, 0, 2, 1, 2)])
        self.assertEqual(self.same(some, (), (0, 0, 0), 2), [(0, "weak", (1,)), (1, "weak", (0,))])

    def test_strong_ones_decide(self):
        some = list_of(3, ENDS, [("n", 1, 0, 2, *WEAK), ("n", 1, 1, 2, *STRONG)])
        self.assertEqual(self.same(some, (), (0, 0, 0), 2), [(1, "strong", (1,))])
        # A long strong way is ahead of a short weak one of the same bit.
        some = list_of(4, ENDS, [("n", 1, 1, 2, *WEAK), ("n", 1, 1, 3, *STRONG), ("n", 1, 2, 3, *STRONG)])
        self.assertEqual(self.same(some, (), (0, 0, 0, 0), 2), [(1, "strong", (1, 2))])

    def test_weak_ways_may_have_strong_switches(self):
        some = list_of(4, ENDS, [("n", 1, 1, 3, *STRONG), ("n", 1, 2, 3, *WEAK)])
        self.assertEqual(self.same(some, (), (0, 0, 0, 0), 2), [(1, "weak", (0, 1))])
        self.assertEqual(self.same(some, (), (0, 0, 0, 0), 3), [(1, "strong", (0,))])

    def test_from_a_driven_net_on(self):
        row = [("n", 1, at, at + 1, 1, 1) for at in range(1, 6)]
        self.assertEqual(self.same(list_of(7, ENDS, row), (), (0,) * 7, 6), [(1, "strong", (0, 1, 2, 3, 4))])
        row = [("n", 1, at, at + 1, 1, 1) for at in range(2, 6)] + [("p", 0, 1, 6, 1, 1)]
        self.assertEqual(self.same(list_of(7, ENDS, row), (), (0,) * 7, 2), [(1, "strong", (4, 3, 2, 1, 0))])

    def test_as_few_as_can_be(self):
        rows = [("n", 1, 1, 2, 1, 1), ("n", 1, 2, 3, 1, 1), ("n", 1, 3, 4, 1, 1), ("n", 1, 2, 4, 1, 1)]
        self.assertEqual(self.same(list_of(5, ENDS, rows), (), (0,) * 5, 4), [(1, "strong", (0, 2))])

    def test_any_such_way(self):
        rows = [("n", 1, 1, 2, 1, 1), ("n", 1, 1, 3, 1, 1), ("n", 1, 2, 4, 1, 1), ("n", 1, 3, 4, 1, 1)] * 2
        some = list_of(5, ENDS, rows)
        answer = ways_by_words(some, (), (0,) * 5, 4)
        self.assertEqual(len(answer[0][2]), 8)
        self.each_change_is_seen(some, (), (0,) * 5, 4)

    def test_closed_as_a_round_has_them(self):
        # Gates: up as it is given though the worths say 0; a net that is not driven by the worths.
        some = list_of(5, ENDS, [("n", 1, 1, 2, 1, 1), ("n", 3, 0, 4, 1, 1), ("p", 3, 1, 4, 1, 1)])
        self.assertEqual(self.same(some, (), (1, 0, 0, 0, 0), 2), [(1, "strong", (0,))])
        self.assertEqual(self.same(some, (), (1, 0, 0, 0, 0), 4), [(1, "strong", (2,))])
        self.assertEqual(self.same(some, (), (1, 0, 0, 1, 0), 4), [(0, "strong", (1,))])
        self.assertEqual(self.same(some, (), (1, 0, 0, 2, 0), 4), [])

    def test_not_over_driven_nets(self):
        rows = [("n", 1, 0, 2, 1, 1), ("n", 1, 2, 3, 1, 1)]
        some = list_of(4, ENDS + [("a", 2)], rows)
        self.assertEqual(self.same(some, (("a", 1),), (0,) * 4, 3), [(1, "strong", (1,))])
        self.looked(some, (("a", 1),), (0,) * 4, 3, [(0, "strong", (0, 1))], False)
        self.assertEqual(self.same(some, (), (0,) * 4, 3), [(0, "strong", (0, 1))])

    def test_by_chance(self):
        found = {0: 0, 1: 0, 2: 0}
        for seed in range(500):
            some, given, worths = given_list(seed)
            if is_refused(some, given):
                continue
            after = round_on(some, given, worths)
            for net in range(some[0]):
                told = self.same(some, given, worths, net)
                found[len(told)] += 1
                if told:
                    self.assertEqual(after[net], 2 if len(told) == 2 else told[0][0])
        self.assertGreater(min(found.values()), 20)


class TestAreWays(Ways):
    def test_each_change(self):
        rows = [("n", 1, 1, 2, *STRONG), ("n", 1, 2, 3, *STRONG), ("n", 1, 0, 3, *STRONG), ("p", 1, 0, 3, *STRONG)]
        self.each_change_is_seen(list_of(4, ENDS, rows), (), (0,) * 4, 3)
        self.each_change_is_seen(list_of(4, ENDS, [row[:4] + WEAK for row in rows]), (), (0,) * 4, 3)
        for seed in range(80):
            some, given, worths = given_list(seed)
            if not is_refused(some, given):
                for net in range(some[0]):
                    self.each_change_is_seen(some, given, worths, net)

    def test_a_longer_way(self):
        rows = [("n", 1, 1, 2, 1, 1), ("n", 1, 1, 3, 1, 1), ("n", 1, 2, 3, 1, 1)]
        some = list_of(4, ENDS, rows)
        self.looked(some, (), (0,) * 4, 3, [(1, "strong", (1,))], True)
        self.looked(some, (), (0,) * 4, 3, [(1, "strong", (0, 2))], False)

    def test_an_open_switch(self):
        some = list_of(3, ENDS, [("n", 1, 1, 2, 1, 1), ("p", 1, 1, 2, 1, 1)])
        self.looked(some, (), (0,) * 3, 2, [(1, "strong", (0,))], True)
        self.looked(some, (), (0,) * 3, 2, [(1, "strong", (1,))], False)

    def test_over_a_driven_net(self):
        # From down to net 5 lead 2 and 3, or as many switches over a, which is driven, and net 4.
        rows = [("n", 1, 0, 2, 1, 1), ("n", 1, 2, 3, 1, 1), ("n", 1, 3, 5, 1, 1)]
        rows += [("n", 1, 0, 6, 1, 1), ("n", 1, 6, 4, 1, 1), ("n", 1, 4, 5, 1, 1)]
        some = list_of(7, ENDS + [("a", 6)], rows)
        number = {(row[2], row[3]): at for at, row in enumerate(some[2])}
        good = (0, "strong", (number[0, 2], number[2, 3], number[3, 5]))
        over = (0, "strong", (number[0, 6], number[4, 6], number[4, 5]))
        high = (1, "strong", (number[4, 6], number[4, 5]))
        self.assertEqual(self.same(some, (("a", 1),), (0,) * 7, 5), [good, high])
        self.looked(some, (("a", 1),), (0,) * 7, 5, [over, high], False)
        self.looked(some, (), (0,) * 7, 5, [over], True)

    def test_another_strength(self):
        some = list_of(3, ENDS, [("n", 1, 1, 2, *STRONG), ("n", 1, 1, 2, *WEAK)])
        self.looked(some, (), (0,) * 3, 2, [(1, "strong", (1,))], True)
        self.looked(some, (), (0,) * 3, 2, [(1, "weak", (1,))], False)
        self.looked(some, (), (0,) * 3, 2, [(1, "strong", (0,))], False)
        self.looked(some, (), (0,) * 3, 2, [(1, "weak", (0,))], False)

    def test_the_other_way_round(self):
        some = list_of(4, ENDS, [("n", 1, 1, 2, 1, 1), ("n", 1, 2, 3, 1, 1)])
        self.looked(some, (), (0,) * 4, 3, [(1, "strong", (0, 1))], True)
        self.looked(some, (), (0,) * 4, 3, [(1, "strong", (1, 0))], False)

    def test_odd_things(self):
        some = list_of(4, ENDS, [("n", 1, 1, 2, 1, 1), ("n", 1, 2, 3, 1, 1)])
        for thing in odd_things():
            for net in range(4):
                self.looked(some, (), (0,) * 4, net, thing, thing == [] and net < 2)
                self.looked(some, (), (0,) * 4, net, [thing], False)
                self.looked(some, (), (0,) * 4, net, [(1, "strong", thing)], net == 2 and repr(thing) == "(0,)")
                self.looked(some, (), (0,) * 4, net, [(1, thing, (0,))], False)
                self.looked(some, (), (0,) * 4, net, [(thing, "strong", (0,))], net == 2 and repr(thing) == "1")


class TestNoGiven(Ways):
    def test_refused(self):
        both = list_of(2, [("a", 0), ("b", 0), ("up", 1)], ())
        for some, given in (
            (list_of(3, ENDS, ()), (("a", 0),)), (both, (("a", 0), ("b", 1))),
            (list_of(1, [("a", 0), ("up", 0)], ()), (("a", 0),)), (list_of(1, [("down", 0), ("up", 0)], ()), ()),
        ):
            worths = (0,) * some[0]
            for net in range(some[0]):
                with self.assertRaises(NoGiven):
                    ways(some, given, worths, net)
                for thing in ([], (), None, [(0, "strong", (0,))]):
                    with self.assertRaises(NoGiven):
                        are_ways(some, given, worths, net, thing)


class TestAskedAgain(Ways):
    def test_the_list_is_the_askers_own(self):
        some = list_of(3, ENDS, [("n", 1, 1, 2, 1, 1), ("p", 0, 0, 2, 1, 1)])
        given, worths = (), (0, 0, 0)
        told = ways(some, given, worths, 2)
        copy = list(told)
        told.reverse()
        told.pop()
        self.assertEqual(ways(some, given, worths, 2), copy)
        self.assertEqual(some, list_of(3, ENDS, [("n", 1, 1, 2, 1, 1), ("p", 0, 0, 2, 1, 1)]))

    def test_what_is_looked_at_stays(self):
        some = list_of(3, ENDS, [("n", 1, 1, 2, 1, 1)])
        thing = [(1, "strong", [0])]
        for _ in range(2):
            self.looked(some, (), (0, 0, 0), 2, thing, False)
            self.looked(some, (), (0, 0, 0), 2, [(1, "strong", (0,))], True)
        self.assertEqual(thing, [(1, "strong", [0])])


if __name__ == "__main__":
    unittest.main()
