"""Points 23, 24 and 25, and 2 and 3 of them."""

import itertools
import unittest

from maskwright.alike import held, marks
from maskwright.errors import TooMuch
from maskwright.papers import looked
from tests.circuits import closed_way, ends_pair, list_of, loop_pair, renamed, ring_pair, shuffled, some_list

BARE = (0, (), ())


def lone_nets(many, names=()):
    return (many, tuple(names), ())


def telling_by_words(switch, place, mark_of):
    """What a switch tells of its net at a place (1 the gate, 2 and 3 the ends), by point 24's words."""
    sort, gate, one, other, width, length = switch
    if place == 1:
        return (sort, width, length, "gate", tuple(sorted((mark_of[one], mark_of[other]))))
    far = other if place == 2 else one
    return (sort, width, length, "end", (mark_of[gate], mark_of[far]))


def as_numbers(rows):
    """Rows of two lists as numbers from 0, as they first come."""
    order = []
    for row in rows[0] + rows[1]:
        if row not in order:
            order.append(row)
    return tuple(tuple(order.index(row) for row in own) for own in rows)


def marks_by_words(one, other, rounds):
    """The marks by point 24's words."""
    lists = (one, other)
    told = as_numbers([
        [tuple(sorted(name for name, at in some[1] if at == net)) for net in range(some[0])] for some in lists
    ])
    for _ in range(rounds):
        rows = []
        for some, own in zip(lists, told):
            rows.append([
                (own[net], sorted(
                    telling_by_words(switch, place, own)
                    for switch in some[2] for place in (1, 2, 3) if switch[place] == net
                )) for net in range(some[0])
            ])
        told = as_numbers(rows)
    return told


def are_parted(one, other, rounds):
    if one[0] != other[0] or len(one[2]) != len(other[2]):
        return True
    told = marks_by_words(one, other, rounds)
    return sorted(told[0]) != sorted(told[1])


def with_name(some, net, name):
    return list_of(some[0], some[1] + ((name, net),), some[2])


def alike_nets(one, other):
    """The nets of the first list whose mark behind as many rounds as there are nets is another's, too."""
    own = marks_by_words(one, other, one[0])[0]
    return [net for net in range(one[0]) if own.count(own[net]) > 1]


def parting_by_words(one, other, deep=0):
    """The paper that parts two lists by point 25's words, None where none does."""
    for rounds in range(max(one[0], other[0]) + 2):
        if are_parted(one, other, rounds):
            return ("marks", rounds)
    alike = alike_nets(one, other)
    if not alike:
        return None
    papers = []
    for net in range(other[0]):
        name = "z" * 7 + "abcdefghi"[deep]
        paper = parting_by_words(with_name(one, alike[0], name), with_name(other, net, name), deep + 1)
        if paper is None:
            return None
        papers.append(paper)
    return ("tries", alike[0], tuple(papers))


def are_one(one, other):
    """Whether some renaming leads the one list into the other, by trying all."""
    if one[0] != other[0]:
        return False
    return any(renamed(one, new) == other for new in itertools.permutations(range(one[0])))


def how_deep(paper):
    """How many tries stand within one another in a paper that parts two lists."""
    return 1 + max(map(how_deep, paper[2])) if paper[0] == "tries" else 0


class Alike(unittest.TestCase):
    def told_one(self, one, other):
        paper = held(one, other)
        self.assertEqual((type(paper), len(paper), paper[0]), (tuple, 2, "one"))
        renaming = paper[1]
        self.assertIsInstance(renaming, tuple)
        self.assertEqual(sorted(renaming), list(range(other[0])))
        self.assertEqual(renamed(one, renaming), other)
        self.assertTrue(looked(one, other, paper))

    def told_two(self, one, other, inner=None):
        paper = held(one, other)
        self.assertEqual(paper, ("two", parting_by_words(one, other) if inner is None else inner))
        self.assertTrue(looked(one, other, paper))
        return paper

    def refused(self, one, other):
        with self.assertRaises(TooMuch):
            held(one, other)


class TestMarks(Alike):
    def same(self, one, other, rounds):
        told = marks(one, other, rounds)
        self.assertEqual(told, marks_by_words(one, other, rounds), (one, other, rounds))
        self.assertTrue(type(told) is tuple and all(type(own) is tuple for own in told))
        return told

    def test_without_nets(self):
        for rounds in (0, 1, 40):
            self.assertEqual(marks(BARE, BARE, rounds), ((), ()))

    def test_behind_no_round(self):
        one = lone_nets(4, [("a", 1), ("b", 1), ("b", 2), ("c", 0)])
        other = lone_nets(3, [("a", 2), ("b", 0), ("b", 2)])
        self.assertEqual(self.same(one, other, 0), ((0, 1, 2, 3), (2, 3, 1)))
        self.assertEqual(self.same(other, one, 0), ((0, 1, 2), (3, 2, 0, 1)))

    def test_numbered_as_they_first_come(self):
        one = list_of(3, (), [("n", 2, 0, 1, 1, 1)])
        self.assertEqual(self.same(one, one, 0), ((0, 0, 0), (0, 0, 0)))
        self.assertEqual(self.same(one, one, 1), ((0, 0, 1), (0, 0, 1)))
        self.assertEqual(self.same(one, renamed(one, (2, 1, 0)), 1), ((0, 0, 1), (1, 0, 0)))
        self.assertEqual(self.same(renamed(one, (2, 1, 0)), one, 1), ((0, 1, 1), (1, 1, 0)))

    def test_a_gate_that_is_an_end(self):
        one = list_of(2, (), [("n", 0, 0, 1, 1, 1)])
        other = list_of(2, (), [("n", 1, 0, 1, 1, 1)])
        for rounds in range(4):
            self.same(one, other, rounds)
        self.assertEqual(marks(one, other, 1), ((0, 1), (1, 0)))

    def test_both_ends_on_one_net(self):
        once = list_of(2, (), [("n", 1, 0, 0, 1, 1)])
        twice = list_of(3, (), [("n", 1, 0, 2, 1, 1)])
        self.assertEqual(self.same(once, twice, 1), ((0, 1), (2, 1, 2)))
        # Two switches to itself or two to one another tell each net the same.
        one, other = loop_pair()
        for rounds in (0, 1, 2, 40):
            told = self.same(one, other, rounds)
            self.assertEqual(told[0], told[1])

    def test_what_a_switch_tells(self):
        switch = ("n", 0, 1, 2, 3, 4)
        one = list_of(3, [("a", 0), ("b", 1), ("c", 2)], [switch])
        for at, thing in ((0, "p"), (4, 4), (5, 5)):
            changed = switch[:at] + (thing,) + switch[at + 1:]
            self.assertEqual(self.same(one, list_of(3, one[1], [changed]), 1), ((0, 1, 2), (3, 4, 5)))
        for nets in ((1, 0, 2), (2, 0, 1)):
            told = self.same(one, list_of(3, one[1], [("n", *nets, 3, 4)]), 1)
            self.assertEqual(len(set(told[0]) & set(told[1])), 0)

    def test_ends_at_a_gate_are_sorted(self):
        one = list_of(3, [("a", 0), ("b", 2)], [("n", 1, 0, 2, 1, 1)])
        other = list_of(3, [("a", 2), ("b", 0)], [("n", 1, 0, 2, 1, 1)])
        self.assertEqual(self.same(one, other, 1), ((0, 1, 2), (2, 1, 0)))

    def test_gate_and_other_end_are_not_exchanged(self):
        one = list_of(3, [("a", 0), ("b", 1)], [("n", 0, 1, 2, 1, 1)])
        other = list_of(3, [("a", 0), ("b", 1)], [("n", 1, 0, 2, 1, 1)])
        told = self.same(one, other, 1)
        self.assertNotEqual(told[0][2], told[1][2])

    def test_many_rounds(self):
        row = list_of(40, [("a", 0)], [("n", 39, at, at + 1, 1, 1) for at in range(38)])
        other = renamed(row, shuffled(40, 4))
        for rounds in (0, 1, 2, 3, 10, 20, 39, 40):
            told = self.same(row, other, rounds)
            self.assertEqual(sorted(told[0]), sorted(told[1]))
        self.assertEqual(len(set(told[0])), 40)

    def test_unlike_many_nets(self):
        for rounds in (0, 1, 5):
            self.same(some_list(1, many=3, switches=5), some_list(2, many=8, switches=2), rounds)
            self.same(BARE, some_list(2, many=8, switches=9), rounds)
            self.same(some_list(2, many=8, switches=9), BARE, rounds)

    def test_by_chance(self):
        for seed in range(60):
            one = some_list(seed, many=3 + seed % 7, switches=seed % 12, names="ab"[:seed % 3])
            other = some_list(seed + 500, many=3 + seed % 6, switches=seed % 11, names="ab"[:seed % 2])
            for rounds in (0, 1, 2, 3, 6):
                self.same(one, other, rounds)
                self.same(one, renamed(one, shuffled(one[0], seed)), rounds)

    def test_what_is_handed_in_stays(self):
        one, other = some_list(1), some_list(2)
        told = marks(one, other, 3)
        self.assertEqual((one, other), (some_list(1), some_list(2)))
        marks(other, one, 5)
        self.assertEqual(marks(one, other, 3), told)


class TestOne(Alike):
    def test_without_nets(self):
        self.assertEqual(held(BARE, BARE), ("one", ()))

    def test_itself(self):
        self.assertEqual(held(lone_nets(1), lone_nets(1)), ("one", (0,)))
        some = list_of(3, [("a", 0)], [("n", 0, 1, 2, 1, 1), ("p", 0, 1, 1, 1, 1)])
        self.assertEqual(held(some, some), ("one", (0, 1, 2)))

    def test_numbered_otherwise(self):
        for seed in range(80):
            some = some_list(seed, many=2 + seed % 9, switches=3 + seed % 14, names="abc"[:seed % 4])
            for other in (some, renamed(some, shuffled(some[0], seed)), renamed(some, shuffled(some[0], seed + 1))):
                self.told_one(some, other)

    def test_forty_nets(self):
        for seed in range(5):
            some = some_list(seed, many=40, switches=40, names="abcdefghijklmnopqrstuvwxyz")
            self.assertEqual(some[0], 40)
            alike = alike_nets(some, some)
            new = shuffled(40, seed)
            if len(alike) > 8:
                self.refused(some, renamed(some, new))
            else:
                self.told_one(some, renamed(some, new))
        row = list_of(40, [("a", 0)], [("n", 39, at, at + 1, 1, 1) for at in range(38)])
        self.told_one(row, renamed(row, shuffled(40, 9)))

    def test_many_nets_alike(self):
        ring = list_of(9, [("g", 8)], closed_way(list(range(8)), 8))
        for seed in range(6):
            self.told_one(lone_nets(8), lone_nets(8))
            self.told_one(ring, renamed(ring, shuffled(9, seed)))
            for some in ring_pair() + loop_pair(lone=6) + loop_pair(lone=3):
                self.told_one(some, renamed(some, shuffled(some[0], seed)))

    def test_alike_nets_that_do_not_fit_each_other(self):
        # Two of three alike nets stand by one another; the first net tried is often the wrong one.
        some = list_of(8, [("g", 7)], closed_way([0, 1, 2], 7) + closed_way([3, 4, 5, 6], 7))
        for seed in range(10):
            self.told_one(renamed(some, shuffled(8, seed + 50)), renamed(some, shuffled(8, seed)))

    def test_names_on_several_nets(self):
        one = lone_nets(3, [("a", 0), ("a", 1), ("b", 1)])
        other = lone_nets(3, [("a", 1), ("a", 2), ("b", 2)])
        self.assertEqual(held(one, other), ("one", (1, 2, 0)))


class TestTwo(Alike):
    def test_by_how_many(self):
        self.told_two(lone_nets(2), lone_nets(3), ("marks", 0))
        self.told_two(BARE, lone_nets(1), ("marks", 0))
        self.told_two(lone_nets(40), BARE, ("marks", 0))
        one = list_of(3, (), [("n", 0, 1, 2, 1, 1)])
        self.told_two(one, list_of(3, (), [("n", 0, 1, 2, 1, 1)] * 2), ("marks", 0))
        self.told_two(lone_nets(3), one, ("marks", 0))

    def test_by_names(self):
        self.told_two(lone_nets(2, [("a", 0)]), lone_nets(2, [("b", 0)]), ("marks", 0))
        self.told_two(lone_nets(2, [("a", 0)]), lone_nets(2), ("marks", 0))
        self.told_two(lone_nets(2, [("a", 0), ("b", 0)]), lone_nets(2, [("a", 0), ("b", 1)]), ("marks", 0))
        self.told_two(lone_nets(3, [("a", 0), ("a", 1)]), lone_nets(3, [("a", 0)]), ("marks", 0))

    def test_behind_a_round(self):
        switch = ("n", 0, 1, 2, 3, 4)
        for at, thing in ((0, "p"), (3, 1), (4, 4), (5, 5)):
            other = list_of(3, (), [switch[:at] + (thing,) + switch[at + 1:]])
            self.told_two(list_of(3, (), [switch]), other, ("marks", 1))
        one, other = list_of(2, [("a", 0)], [("n", 0, 0, 1, 1, 1)]), list_of(2, [("a", 0)], [("n", 1, 0, 1, 1, 1)])
        self.told_two(one, other, ("marks", 1))

    def test_behind_more_rounds(self):
        for steps in range(1, 19):
            one, other = ends_pair(steps)
            paper = self.told_two(one, other)
            self.assertEqual(paper, ("two", ("marks", 1 + steps // 2)))
            self.told_one(one, one)

    def test_tries_of_two_nets(self):
        one, other = loop_pair()
        paper = ("tries", 0, (("marks", 1), ("marks", 1), ("marks", 0)))
        self.told_two(one, other, paper)
        self.told_two(one, other)
        self.told_two(other, one, paper)

    def test_tries_of_rings(self):
        one, other = ring_pair()
        paper = self.told_two(one, other)
        self.assertEqual(paper[1][:2], ("tries", 0))
        self.assertEqual(paper[1][2], (("marks", 2),) * 6 + (("marks", 0),))
        self.told_two(renamed(one, (6, 1, 2, 3, 4, 5, 0)), other, ("tries", 1, paper[1][2]))
        self.told_two(other, one)

    def test_papers_within_papers(self):
        for lone in (2, 3, 4):
            one, other = loop_pair(lone=lone)
            paper = self.told_two(one, other)
            self.assertEqual(how_deep(paper[1]), lone)
            self.told_two(renamed(one, shuffled(one[0], lone)), renamed(other, shuffled(one[0], lone + 1)))

    def test_tries_that_take_more_rounds(self):
        # Nets in a row that are marked unlike only behind two rounds and more are tried, too.
        for many in range(6, 13):
            self.told_two(*loop_pair(lone=2, many=many))
        for tail in range(1, 9):
            lists = []
            for some in ring_pair():
                row = [("n", 6, at, at + 1, 1, 1) for at in range(7, 7 + tail)]
                lists.append(list_of(8 + tail, some[1] + (("t", 7),), some[2] + tuple(row)))
            paper = self.told_two(*lists)
            self.assertEqual({row[1] for row in paper[1][2]}, {0, 1, 2})

    def test_eight_nets_alike(self):
        cube = [(one, one ^ bit) for one in range(8) for bit in (1, 2, 4) if one < one ^ bit]
        ring = [(at, (at + 1) % 8) for at in range(8)] + [(at, at + 4) for at in range(4)]
        lists = [
            list_of(9, [("g", 8)], [("n", 8, one, other, 1, 1) for one, other in edges]) for edges in (cube, ring)
        ]
        self.assertEqual(alike_nets(*lists), list(range(8)))
        self.told_two(*lists)
        self.told_two(*lists[::-1])

    def test_worst_tries(self):
        one, other = loop_pair(lone=6, many=20)
        paper = held(one, other)
        self.assertEqual(paper[0], "two")
        self.assertTrue(looked(one, other, paper))


class TestByTryingAll(Alike):
    def test_by_chance(self):
        told = {"one": 0, "two": 0, "tries": 0}
        for seed in range(250):
            many = 2 + seed % 4
            one = some_list(seed, many=many, switches=1 + seed % 4, sizes=(1,))
            other = some_list(seed + 7000, many=many, switches=1 + seed % 4, sizes=(1,))
            self.assertEqual(held(one, other)[0] == "one", are_one(one, other))
            if are_one(one, other):
                self.told_one(one, other)
            else:
                self.told_two(one, other)
            told[held(one, other)[0]] += 1
        for seed in range(1500):
            one = some_list(seed, many=4, switches=4, sizes=(1,))
            one = list_of(5, [("g", 4)], [("n", 4, *row[2:4], 1, 1) for row in one[2]])
            other = some_list(seed + 9000, many=4, switches=4, sizes=(1,))
            other = list_of(5, [("g", 4)], [("n", 4, *row[2:4], 1, 1) for row in other[2]])
            paper = held(one, other)
            told[paper[0]] += 1
            if paper[0] == "two" and paper[1][0] == "tries":
                told["tries"] += 1
                self.told_two(one, other)
                self.assertFalse(are_one(one, other))
        self.assertGreater(min(told.values()), 3, told)


class TestTooMuch(Alike):
    def test_nine_and_eight(self):
        self.told_one(lone_nets(8), lone_nets(8))
        self.refused(lone_nets(9), lone_nets(9))
        self.told_one(lone_nets(9, [("a", 8)]), lone_nets(9, [("a", 3)]))
        self.refused(lone_nets(10, [("a", 8)]), lone_nets(10, [("a", 3)]))
        self.refused(lone_nets(40), lone_nets(40))

    def test_alike_by_twos(self):
        switches = [("n", 10, at, at + 1, 1 + at, 1) for at in range(0, 10, 2)]
        self.refused(list_of(11, [("g", 10)], switches), list_of(11, [("g", 10)], switches))
        named = list_of(11, [("a", 0), ("g", 10)], switches)
        self.told_one(named, renamed(named, shuffled(11, 1)))

    def test_alike_only_ahead_of_the_last_round(self):
        row = list_of(40, [("a", 0)], [("n", 39, at, at + 1, 1, 1) for at in range(38)])
        self.told_one(row, renamed(row, shuffled(40, 1)))

    def test_not_where_rounds_part_them(self):
        self.told_two(lone_nets(40, [("a", 0)]), lone_nets(40), ("marks", 0))
        self.told_two(lone_nets(40), lone_nets(39), ("marks", 0))
        one = list_of(40, (), [("n", 0, 1, 2, 1, 1)])
        self.told_two(one, list_of(40, (), [("n", 0, 1, 1, 1, 1)]), ("marks", 1))
        self.told_two(one, list_of(40, (), [("n", 0, 1, 2, 1, 1)] * 2), ("marks", 0))

    def test_two_lists_that_tries_would_part(self):
        self.refused(*loop_pair(lone=7))
        self.told_two(*loop_pair(lone=5))


class TestAskedAgain(Alike):
    def test_the_same(self):
        for one, other in (ring_pair(), loop_pair(2), (some_list(1), some_list(2)), (some_list(1), some_list(1))):
            copies = (list_of(*one), list_of(*other))
            told = held(one, other)
            self.refused(lone_nets(9), lone_nets(9))
            self.assertEqual((one, other), copies)
            self.assertEqual(held(one, other), told)


if __name__ == "__main__":
    unittest.main()
