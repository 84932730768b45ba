"""Points 27, 28 and 29, and 2 and 3 of them."""

import itertools
import unittest

from maskwright.errors import NoGiven, TooLong
from maskwright.worths import round_on, settled
from tests.circuits import (
    closed_by_words, driven_by_words, given_list, is_refused, is_strong, list_of, renamed, shuffled, turner,
    turners_in_row,
)

NAMES = (("a", 0), ("b", 1), ("down", 2), ("up", 3))


def bits_that_come(some, driven, switches):
    """For each net that is not driven the bits of driven nets from which switches lead to it."""
    come = {net: set() for net in range(some[0]) if net not in driven}
    for _ in range(some[0] + 1):
        for number in switches:
            one, other = some[2][number][2:4]
            for here, there in ((one, other), (other, one)):
                if there in come:
                    come[there] |= {driven[here]} if here in driven else come[here]
    return come


def round_by_words(some, given, worths):
    """A round by point 28's words."""
    driven = driven_by_words(some, given)
    closed = closed_by_words(some, given, worths)
    strong = bits_that_come(some, driven, [at for at in closed if is_strong(some[2][at])])
    weak = bits_that_come(some, driven, closed)
    new = []
    for net in range(some[0]):
        if net in driven:
            new.append(driven[net])
            continue
        come = strong[net] or weak[net]
        new.append(worths[net] if not come else 2 if len(come) == 2 else min(come))
    return tuple(new)


def settled_by_words(some, given, worths):
    """What rounds lead to by point 29's words, None where two hundred are too few."""
    row = [worths]
    for rounds in range(1, 201):
        row.append(round_by_words(some, given, row[-1]))
        if row[-1] == row[-2]:
            return ("rest", row[-1], rounds - 1)
        if row[-1] in row[:-1]:
            return ("ring", tuple(row[row.index(row[-1]):-1]))
    return None


class Worths(unittest.TestCase):
    def told(self, some, given, worths, answer):
        told = round_on(some, given, worths)
        self.assertEqual(told, round_by_words(some, given, worths))
        self.assertEqual(told, answer)

    def same_end(self, some, given, worths):
        told = settled(some, given, worths)
        self.assertEqual(told, settled_by_words(some, given, worths))
        return told

    def refused(self, some, given, worths=None):
        worths = (0,) * some[0] if worths is None else worths
        for ask in (round_on, settled):
            with self.assertRaises(NoGiven):
                ask(some, given, worths)


class TestRound(Worths):
    def one_switch(self, sort, gate_worth, width=1, length=1):
        """What becomes of net 4 behind a switch from up (a is the gate) when it had 2."""
        some = list_of(5, NAMES, [(sort, 0, 3, 4, width, length)])
        return round_on(some, (("b", 0),), (gate_worth, 0, 0, 0, 2))[4]

    def test_sorts_and_gates(self):
        self.assertEqual([self.one_switch("n", worth) for worth in (0, 1, 2)], [2, 1, 2])
        self.assertEqual([self.one_switch("p", worth) for worth in (0, 1, 2)], [1, 2, 2])
        self.assertEqual([self.one_switch("n", worth, 1, 9) for worth in (0, 1, 2)], [2, 1, 2])

    def test_up_and_down(self):
        self.told(list_of(3, [("down", 1), ("up", 0)], ()), (), (2, 2, 2), (1, 0, 2))
        self.told(list_of(4, [("down", 1), ("down", 2), ("up", 0), ("up", 3)], ()), (), (0, 1, 2, 0), (1, 0, 0, 1))
        self.told(list_of(2, (), ()), (), (2, 1), (2, 1))
        self.told((0, (), ()), (), (), ())

    def test_given(self):
        some = list_of(3, [("a", 0), ("a", 2), ("b", 1)], ())
        self.told(some, (("a", 1),), (0, 2, 2), (1, 2, 1))
        self.told(some, (("a", 0), ("b", 1)), (1, 0, 2), (0, 1, 0))

    def test_a_net_given_by_two_names(self):
        some = list_of(2, [("a", 0), ("b", 0), ("up", 1)], ())
        self.told(some, (("a", 1), ("b", 1)), (0, 0), (1, 1))
        self.told(list_of(1, [("a", 0), ("up", 0)], ()), (("a", 1),), (0,), (1,))
        self.told(list_of(1, [("a", 0), ("down", 0)], ()), (("a", 0),), (2,), (0,))

    def test_gates_that_are_driven_close_at_once(self):
        some = list_of(5, NAMES, [("n", 0, 3, 4, 1, 1), ("p", 0, 2, 4, 1, 1)])
        self.told(some, (("a", 1),), (0, 0, 1, 0, 0), (1, 0, 0, 1, 1))
        self.told(some, (("a", 0),), (1, 0, 1, 0, 1), (0, 0, 0, 1, 0))
        some = list_of(4, [("down", 0), ("up", 1)], [("n", 1, 1, 2, 1, 1), ("p", 0, 0, 3, 1, 1)])
        self.told(some, (), (1, 0, 2, 2), (0, 1, 1, 0))

    def test_gates_that_are_not_driven_close_by_the_worths_ahead(self):
        some = list_of(5, [("down", 0), ("up", 1)], turner(2, 3, 0, 1) + turner(3, 4, 0, 1))
        self.told(some, (), (0, 1, 1, 1, 1), (0, 1, 1, 0, 0))
        self.told(some, (), (0, 1, 1, 0, 0), (0, 1, 1, 0, 1))

    def both(self, low, high):
        """What net 2 gets from down by a switch of one size, from up by one of another."""
        some = list_of(3, [("down", 0), ("up", 1)], [("n", 1, 0, 2, *low), ("n", 1, 1, 2, *high)])
        return round_on(some, (), (0, 1, 1))[2]

    def test_strong_ones_ahead_of_weak_ones(self):
        strong, weak = (2, 1), (1, 2)
        self.assertEqual(self.both(strong, strong), 2)
        self.assertEqual(self.both(weak, weak), 2)
        self.assertEqual(self.both(strong, weak), 0)
        self.assertEqual(self.both(weak, strong), 1)

    def test_as_long_as_wide_is_strong(self):
        self.assertEqual(self.both((3, 3), (3, 4)), 0)
        self.assertEqual(self.both((3, 3), (4, 3)), 2)
        self.assertEqual(self.both((1, 2 ** 21), (2 ** 21, 2 ** 21)), 1)

    def test_a_way_is_strong_where_all_its_switches_are(self):
        names = [("down", 0), ("up", 1)]
        strong, weak = (2, 1), (1, 2)
        for first, second, net_3, net_2 in ((strong, strong, 1, 1), (strong, weak, 1, 2), (weak, strong, 2, 2)):
            rows = [("n", 1, 1, 3, *first), ("n", 1, 3, 2, *second), ("n", 1, 0, 2, *weak)]
            self.told(list_of(4, names, rows), (), (0, 1, 2, 2), (0, 1, net_2, net_3))

    def test_strong_ones_within_a_net_of_weak_ways(self):
        # Net 2 hangs weakly on up and strongly on net 3, which hangs strongly on down.
        rows = [("n", 1, 1, 2, 1, 2), ("n", 1, 2, 3, 1, 1), ("n", 1, 0, 3, 1, 1)]
        self.told(list_of(4, [("down", 0), ("up", 1)], rows), (), (0, 0, 2, 2), (0, 1, 0, 0))

    def test_no_way(self):
        rows = [("n", 0, 2, 3, 1, 1), ("p", 1, 1, 2, 1, 1)]
        some = list_of(4, [("down", 0), ("up", 1)], rows)
        for worths in itertools.product((0, 1), (0, 1), (0, 1, 2), (0, 1, 2)):
            self.told(some, (), worths, (0, 1) + worths[2:])

    def test_ways_among_nets_that_are_not_driven_are_none(self):
        some = list_of(3, [("up", 0)], [("n", 0, 1, 2, 1, 1)])
        self.told(some, (), (1, 0, 1), (1, 0, 1))

    def test_ways_do_not_lead_over_driven_nets(self):
        # From down over a (driven 1) to net 4: only a's own worth comes.
        rows = [("n", 3, 2, 0, 1, 1), ("n", 3, 0, 4, 1, 1)]
        some = list_of(5, NAMES, rows)
        self.told(some, (("a", 1),), (0, 0, 0, 0, 2), (1, 0, 0, 1, 1))
        self.told(some, (), (0, 2, 0, 0, 2), (0, 2, 0, 1, 0))

    def test_a_long_way(self):
        rows = [("n", 1, at, at + 1, 1, 1) for at in range(1, 39)]
        some = list_of(40, [("down", 0), ("up", 1)], rows)
        self.told(some, (), (0,) * 40, (0,) + (1,) * 39)

    def test_a_switch_to_itself_leads_nowhere(self):
        some = list_of(3, [("down", 0), ("up", 1)], [("n", 1, 2, 2, 1, 1)])
        self.told(some, (), (0, 0, 2), (0, 1, 2))

    def test_by_chance(self):
        asked = 0
        for seed in range(600):
            some, given, worths = given_list(seed)
            if is_refused(some, given):
                self.refused(some, given, worths)
                continue
            asked += 1
            told = round_on(some, given, worths)
            self.assertEqual(told, round_by_words(some, given, worths), (some, given, worths))
            self.assertTrue(type(told) is tuple and all(type(worth) is int for worth in told))
        self.assertTrue(200 < asked < 590)


class TestNoGiven(Worths):
    def test_a_name_that_is_no_nets(self):
        self.refused(list_of(5, NAMES, ()), (("c", 0),))
        self.refused(list_of(5, NAMES, ()), (("a", 0), ("c", 1)))
        self.refused((0, (), ()), (("a", 0),))

    def test_a_net_that_is_given_both_bits(self):
        self.refused(list_of(1, [("a", 0), ("b", 0)], ()), (("a", 0), ("b", 1)))
        self.refused(list_of(3, [("a", 0), ("a", 1), ("b", 1)], ()), (("a", 0), ("b", 1)))

    def test_by_up_and_down(self):
        self.refused(list_of(1, [("a", 0), ("up", 0)], ()), (("a", 0),))
        self.refused(list_of(1, [("a", 0), ("down", 0)], ()), (("a", 1),))
        self.refused(list_of(1, [("down", 0), ("up", 0)], ()), ())
        self.refused(list_of(2, [("down", 0), ("down", 1), ("up", 1)], ()), ())

    def test_none_where_the_names_are_not_given(self):
        some = list_of(2, [("a", 0), ("b", 0), ("c", 1)], ())
        self.assertEqual(round_on(some, (("a", 0),), (1, 1)), (0, 1))
        self.assertEqual(settled(some, (("b", 1),), (1, 1)), ("rest", (1, 1), 0))


class TestSettled(Worths):
    def test_at_once(self):
        self.assertEqual(settled((0, (), ()), (), ()), ("rest", (), 0))
        some = turners_in_row(2)
        self.assertEqual(self.same_end(some, (("a", 1),), (0, 1, 1, 0, 1)), ("rest", (0, 1, 1, 0, 1), 0))

    def test_behind_several_rounds(self):
        some = turners_in_row(5)
        told = self.same_end(some, (("a", 1),), (0, 1, 0, 1, 0, 1, 0, 1))
        self.assertEqual(told, ("rest", (0, 1, 1, 0, 1, 0, 1, 0), 5))
        self.assertEqual(self.same_end(some, (("a", 1),), (0,) * 8)[0], "rest")

    def test_what_is_driven_counts_as_a_change(self):
        self.assertEqual(settled(list_of(1, [("up", 0)], ()), (), (0,)), ("rest", (1,), 1))

    def test_two_in_a_ring(self):
        some = turners_in_row(3, ring=True)
        told = self.same_end(some, (), (0, 1, 0, 0, 0))
        self.assertEqual(told, ("ring", ((0, 1, 0, 0, 0), (0, 1, 1, 1, 1))))

    def test_more_in_a_ring_from_the_first_on_that_comes_twice(self):
        some = turners_in_row(3, ring=True)
        told = self.same_end(some, (), (0, 1, 0, 1, 0))
        self.assertEqual((told[0], len(told[1]), told[1][0]), ("ring", 6, (0, 1, 0, 1, 0)))
        # Ahead of the ring there are worths that don't come again: of up, of nets that clash.
        told = self.same_end(some, (), (1, 0, 0, 1, 0))
        self.assertEqual((told[0], len(told[1]), told[1][0]), ("ring", 6, (0, 1, 1, 1, 0)))
        told = self.same_end(some, (), (0, 1, 2, 0, 1))
        self.assertEqual((told[0], 2 in told[1][0]), ("ring", False))
        for row, following in zip(told[1], told[1][1:] + told[1][:1]):
            self.assertEqual(round_by_words(some, (), row), following)

    def test_nets_that_keep_what_they_had(self):
        # A net behind an open switch keeps its worth while a ring goes on.
        some = turners_in_row(3, ring=True)
        some = list_of(6, some[1] + (("a", 5),), some[2])
        self.assertEqual(self.same_end(some, (), (0, 1, 0, 0, 0, 2))[1][1], (0, 1, 1, 1, 1, 2))

    def test_a_latch(self):
        some = list_of(4, [("down", 0), ("up", 1)], turner(2, 3, 0, 1) + turner(3, 2, 0, 1))
        self.assertEqual(self.same_end(some, (), (0, 1, 1, 0)), ("rest", (0, 1, 1, 0), 0))
        self.assertEqual(self.same_end(some, (), (0, 1, 0, 1)), ("rest", (0, 1, 0, 1), 0))
        self.assertEqual(self.same_end(some, (), (0, 1, 0, 0))[0], "ring")

    def test_by_chance(self):
        ends = {"rest": 0, "ring": 0}
        for seed in range(600):
            some, given, worths = given_list(seed)
            if not is_refused(some, given):
                ends[self.same_end(some, given, worths)[0]] += 1
        self.assertGreater(min(ends.values()), 3)


def two_rings(low, high):
    """Two rings of turners in one list."""
    one, other = turners_in_row(low, ring=True), turners_in_row(high, ring=True)
    new = [0, 1] + [2 + low + at for at in range(high)]
    return list_of(2 + low + high, one[1], one[2] + renamed((2 + low + high, (), other[2]), new)[2])


def edge_worths(low, high, clashing=0):
    """Worths by which one edge runs around each of two odd rings; the first nets of the second may clash."""
    rows = [tuple(at % 2 for at in range(many)) for many in (low, high)]
    return (0, 1) + rows[0] + (2,) * clashing + rows[1][clashing:]


class TestTooLong(Worths):
    def too_long(self, some, given, worths):
        self.assertIsNone(settled_by_words(some, given, worths))
        with self.assertRaises(TooLong):
            settled(some, given, worths)

    def test_rings(self):
        some = two_rings(9, 11)
        self.assertEqual((some[0], len(some[2])), (22, 40))
        told = {}
        for clashing in range(9):
            worths = edge_worths(9, 11, clashing)
            answer = settled_by_words(some, (), worths)
            if answer is None:
                self.too_long(some, (), worths)
                told["too long"] = True
                continue
            self.assertEqual(settled(some, (), worths), answer)
            row = [worths]
            while row[-1] != answer[1][0]:
                row.append(round_by_words(some, (), row[-1]))
            told[len(row) - 1 + len(answer[1])] = True
        # Told where the worths come again behind 198 to 200 rounds, and no later.
        self.assertEqual(max(key for key in told if key != "too long"), 200)
        self.assertIn("too long", told)

    def test_a_rest(self):
        for many in (198, 199):
            some = turners_in_row(many)
            worths = (0, 1) + tuple(at % 2 for at in range(many + 1))
            told = settled(some, (("a", 1),), worths)
            self.assertEqual(told, ("rest", (0, 1) + tuple(1 - at % 2 for at in range(many + 1)), many))
        some = turners_in_row(200)
        with self.assertRaises(TooLong):
            settled(some, (("a", 1),), (0, 1) + tuple(at % 2 for at in range(201)))

    def test_no_given_comes_ahead(self):
        some = two_rings(9, 11)
        for clashing in range(9):
            with self.assertRaises(NoGiven):
                settled(some, (("a", 0),), edge_worths(9, 11, clashing))


class TestOrder(Worths):
    def test_what_is_settled_does_not_hang_on_numbers(self):
        for seed in range(150):
            some, given, worths = given_list(seed)
            if is_refused(some, given):
                continue
            new = shuffled(some[0], seed)
            moved = tuple(worths[new.index(net)] for net in range(some[0]))
            told, other = settled(some, given, worths), settled(renamed(some, new), given, moved)
            self.assertEqual(told[0], other[0])
            rows = [told[1]] if told[0] == "rest" else told[1]
            other_rows = [other[1]] if told[0] == "rest" else other[1]
            self.assertEqual(told[2:], other[2:])
            moved_rows = [tuple(row[new.index(net)] for net in range(some[0])) for row in rows]
            self.assertEqual(moved_rows, list(other_rows))

    def test_nor_on_the_switches_order(self):
        for seed in range(100):
            some, given, worths = given_list(seed)
            if is_refused(some, given):
                continue
            other = (some[0], some[1], some[2][::-1])
            self.assertEqual(settled(other, given, worths), settled(some, given, worths))


class TestAskedAgain(Worths):
    def test_the_same(self):
        for seed in range(60):
            some, given, worths = given_list(seed)
            if is_refused(some, given):
                continue
            told = round_on(some, given, worths), settled(some, given, worths)
            self.assertEqual((some, given, worths), given_list(seed))
            self.assertEqual((round_on(some, given, worths), settled(some, given, worths)), told)


if __name__ == "__main__":
    unittest.main()
