"""Points 33 and 34, and 2 of them."""

import random
import unittest

from maskwright.errors import NoGiven, TooLong
from maskwright.tables import played, table
from tests.circuits import (
    closed_by_words, driven_by_words, given_list, is_refused, list_of, renamed, shuffled, some_list, turner,
    turners_in_row,
)
from tests.test_worths import bits_that_come, settled_by_words

ENDS = [("down", 0), ("up", 1)]


def givens_of(ins):
    """What each setting gives to ins, by point 31's words."""
    return [tuple((name, s // 2 ** k % 2) for k, name in enumerate(ins)) for s in range(2 ** len(ins))]


def entry_by_words(some, given, out):
    """An entry of a table by point 33's words; None where two hundred rounds are too few."""
    net = min(net for name, net in some[1] if name == out)
    end = settled_by_words(some, given, (0,) * some[0])
    if end is None or end[0] == "ring":
        return end and "ring"
    driven = driven_by_words(some, given)
    if net in driven:
        return driven[net]
    come = bits_that_come(some, driven, closed_by_words(some, given, end[1]))
    return end[1][net] if come[net] else "open"


def played_by_words(some, givens):
    """What a list is played to, by point 34's words."""
    told, worths = [], (0,) * some[0]
    for given in givens:
        told.append(settled_by_words(some, given, worths))
        if told[-1] is None:
            return None
        worths = told[-1][1] if told[-1][0] == "rest" else told[-1][1][0]
    return told


class Tables(unittest.TestCase):
    def told(self, some, ins, out, answer):
        told = table(some, ins, out)
        self.assertEqual(told, answer)
        self.assertEqual(told, tuple(entry_by_words(some, given, out) for given in givens_of(ins)))
        self.assertTrue(type(told) is tuple and all(type(entry) in (int, str) for entry in told))

    def refused(self, refusal, ask, *things):
        with self.assertRaises(refusal) as caught:
            ask(*things)
        self.assertIs(type(caught.exception), refusal)


class TestTable(Tables):
    def test_a_turner(self):
        some = list_of(4, ENDS + [("a", 2), ("q", 3)], turner(2, 3, 0, 1))
        self.told(some, ("a",), "q", (1, 0))

    def test_two_ins(self):
        names = ENDS + [("a", 2), ("b", 3), ("q", 4)]
        rows = [("n", 2, 4, 5, 6, 2), ("n", 3, 5, 0, 6, 2), ("p", 2, 1, 4, 6, 2), ("p", 3, 1, 4, 6, 2)]
        self.told(list_of(6, names, rows), ("a", "b"), "q", (1, 1, 1, 0))
        self.told(list_of(6, names, rows[:3]), ("a", "b"), "q", (1, "open", 1, 0))

    def test_the_first_name_has_the_lowest_bit(self):
        names = [(name, net) for net, name in enumerate("abcdef")]
        some = list_of(6, names, ())
        for place, name in enumerate("abcdef"):
            self.told(some, tuple("abcdef"), name, tuple(s // 2 ** place % 2 for s in range(64)))

    def test_clashing(self):
        names = ENDS + [("a", 2), ("b", 3), ("q", 4)]
        rows = [("n", 2, 0, 4, 1, 1), ("n", 3, 1, 4, 1, 1)]
        self.told(list_of(5, names, rows), ("a", "b"), "q", ("open", 0, 1, 2))
        weak = [("n", 2, 0, 4, 1, 1), ("n", 3, 1, 4, 1, 2)]
        self.told(list_of(5, names, weak), ("a", "b"), "q", ("open", 0, 1, 0))

    def test_a_ring(self):
        # While a is 1, net 4 turns itself over by net 3.
        names = ENDS + [("a", 2), ("q", 4)]
        rows = turner(4, 3, 0, 1) + [("n", 2, 3, 4, 1, 1), ("p", 2, 0, 4, 1, 1)]
        self.told(list_of(5, names, rows), ("a",), "q", (0, "ring"))

    def test_a_net_that_is_driven_itself(self):
        some = list_of(3, ENDS + [("a", 2)], ())
        self.told(some, ("a",), "a", (0, 1))
        self.told(some, ("a",), "up", (1, 1))
        self.told(some, ("a",), "down", (0, 0))
        # By another name that lies on the same net.
        self.told(list_of(1, [("a", 0), ("q", 0)], ()), ("a",), "q", (0, 1))

    def test_driven_but_ringing(self):
        some = turners_in_row(3, ring=True)
        self.assertEqual(table(list_of(6, some[1] + (("a", 5),), some[2]), ("a",), "a"), ("ring", "ring"))

    def test_a_net_that_keeps_what_it_had(self):
        # By a = 0 the net 4 is up while net 3 is not yet turned over; then no way comes to it any more.
        names = ENDS + [("a", 2), ("q", 4)]
        rows = turner(2, 3, 0, 1) + [("p", 3, 1, 4, 1, 1)]
        some = list_of(5, names, rows)
        self.told(some, ("a",), "q", ("open", 1))
        self.assertEqual(settled_by_words(some, (("a", 0),), (0,) * 5)[1][4], 1)
        self.told(list_of(3, ENDS + [("a", 2), ("q", 2)], ()), ("a",), "q", (0, 1))
        self.told(list_of(4, ENDS + [("a", 2), ("q", 3)], ()), ("a",), "q", ("open", "open"))

    def test_the_first_net_with_the_name(self):
        names = ENDS + [("a", 2), ("q", 3), ("q", 4)]
        rows = turner(2, 3, 0, 1) + turner(3, 4, 0, 1)
        self.told(list_of(5, names, rows), ("a",), "q", (1, 0))
        self.told(renamed(list_of(5, names, rows), [0, 1, 2, 4, 3]), ("a",), "q", (0, 1))

    def test_each_setting_from_worths_that_are_all_0(self):
        # Net 3 is set by a and kept; were b alone to come behind a, it would still be there.
        names = ENDS + [("a", 2), ("b", 4), ("q", 5)]
        rows = [("n", 2, 1, 3, 1, 1), ("n", 3, 1, 5, 1, 1), ("p", 3, 0, 5, 1, 1)]
        self.told(list_of(6, names, rows), ("a", "b"), "q", (0, 1, 0, 1))

    def test_by_chance(self):
        told = {}
        for seed in range(500):
            some, given, worths = given_list(seed)
            names = sorted({name for name, net in some[1]} - {"up", "down"})
            ins = tuple(sorted(random.Random(seed).sample(names, min(len(names), 1 + seed % 2))))
            if not ins:
                continue
            out = random.Random(seed).choice([name for name in names if name not in ins] or names)
            if any(is_refused(some, given) for given in givens_of(ins)):
                self.refused(NoGiven, table, some, ins, out)
                told[NoGiven] = True
                continue
            self.told(some, ins, out, tuple(entry_by_words(some, given, out) for given in givens_of(ins)))
            told.update({entry: True for entry in table(some, ins, out)})
        self.assertEqual(set(told), {0, 1, 2, "open", "ring", NoGiven})

    def test_does_not_hang_on_numbers(self):
        for seed in range(30):
            some = some_list(seed, names="abq")
            some = list_of(some[0] + 2, some[1] + (("down", 8), ("up", 9)), some[2])
            if any(is_refused(some, given) for given in givens_of(("a", "b"))):
                continue
            other = renamed(some, shuffled(10, seed))
            self.assertEqual(table(some, ("a", "b"), "q"), table(other, ("a", "b"), "q"))


def too_long_list():
    """A list that rests by a = 0, and by a = 1 goes on for more than two hundred rounds, from worths all 0.

    By a = 1 the net 4 has 1 behind the first round, and lets the net 5 be up from the second on. So one net of each
    of three rings of turners is late by a round, and they come again behind 6, 10 and 14 rounds, together behind 210.
    """
    rows, many = [("n", 2, 1, 4, 1, 1), ("n", 4, 1, 5, 1, 1)], 6
    for long in (3, 5, 7):
        ring = list(range(many, many + long))
        many += long
        for at, net in enumerate(ring):
            rows += turner(ring[at - 1], net, 0, 1 if at else 5)
    return list_of(many, ENDS + [("a", 2), ("q", 3)], rows)


class TestTableRefused(Tables):
    def test_out_is_no_nets_name(self):
        some = list_of(3, ENDS + [("a", 2)], ())
        self.refused(NoGiven, table, some, ("a",), "q")
        self.refused(NoGiven, table, (1, (("a", 0),), ()), ("a",), "up")
        self.refused(NoGiven, table, (0, (), ()), ("a",), "a")

    def test_an_in_is_none(self):
        some = list_of(3, ENDS + [("a", 2), ("q", 2)], ())
        self.refused(NoGiven, table, some, ("b",), "q")
        self.refused(NoGiven, table, some, ("a", "b"), "q")

    def test_a_net_is_given_both_bits_in_some_settings_alone(self):
        self.refused(NoGiven, table, list_of(2, [("a", 0), ("b", 0), ("q", 1)], ()), ("a", "b"), "q")
        self.refused(NoGiven, table, list_of(2, [("a", 0), ("up", 0), ("q", 1)], ()), ("a",), "q")
        self.refused(NoGiven, table, list_of(2, [("a", 0), ("down", 0), ("q", 1)], ()), ("a",), "q")
        self.refused(NoGiven, table, list_of(3, [("a", 0), ("down", 1), ("up", 1), ("q", 2)], ()), ("a",), "q")

    def test_too_long(self):
        some = too_long_list()
        self.assertEqual([entry_by_words(some, given, "q") for given in givens_of(("a",))], ["open", None])
        self.refused(TooLong, table, some, ("a",), "q")

    def test_no_given_comes_ahead_of_too_long(self):
        some = too_long_list()
        many = some[0]
        # The setting 1 is too long; settings 2 and 3 give a net both bits.
        some = list_of(many + 1, some[1] + (("b", many), ("down", many)), some[2])
        self.refused(NoGiven, table, some, ("a", "b"), "q")
        self.refused(NoGiven, table, some, ("a",), "none")
        self.refused(TooLong, table, some, ("a",), "q")


class TestPlayed(Tables):
    def same(self, some, givens):
        told = played(some, givens)
        self.assertEqual(told, played_by_words(some, givens))
        self.assertIs(type(told), list)
        return told

    def latch(self):
        """A pair of turners in a ring, which a sets to 1 and b to 0 by stronger switches."""
        names = ENDS + [("a", 2), ("b", 3), ("q", 5)]
        weak = [(sort, gate, one, other, 1, 2) for sort, gate, one, other, *size in turner(4, 5, 0, 1) + turner(5, 4, 0, 1)]
        return list_of(6, names, weak + [("n", 2, 1, 5, 1, 1), ("n", 3, 0, 5, 1, 1)])

    def test_none(self):
        self.assertEqual(played(self.latch(), ()), [])
        self.assertEqual(played((0, (), ()), ((),)), [("rest", (), 0)])

    def test_from_the_worths_that_rest_behind_the_one_ahead(self):
        sets, clears, keeps = (("a", 1), ("b", 0)), (("a", 0), ("b", 1)), (("a", 0), ("b", 0))
        told = self.same(self.latch(), (sets, keeps, clears, keeps, keeps, sets))
        self.assertEqual([entry[1][5] for entry in told], [1, 1, 0, 0, 0, 1])
        self.assertEqual({entry[0] for entry in told}, {"rest"})
        self.assertEqual(told[4][2], 0)

    def test_names_that_are_given_no_more(self):
        told = self.same(self.latch(), ((("a", 1), ("b", 0)), (), (("b", 0),)))
        self.assertEqual([entry[1][2:4] for entry in told], [(1, 0)] * 3)

    def test_behind_a_ring_from_its_first_ones(self):
        # By a = 1 the net 3 rings; by a = 0 it keeps what it had.
        names = ENDS + [("a", 2)]
        rows = turner(4, 3, 0, 1) + [("n", 2, 3, 4, 1, 1)]
        some = list_of(5, names, rows)
        told = self.same(some, ((("a", 0),), (("a", 1),), (("a", 0),), (("a", 1),)))
        self.assertEqual([entry[0] for entry in told], ["rest", "ring", "rest", "ring"])
        self.assertGreater(len(told[1][1]), 1)
        first = told[1][1][0]
        self.assertEqual(told[2], settled_by_words(some, (("a", 0),), first))

    def test_twenty(self):
        chance = random.Random(5)
        givens = tuple((("a", chance.randrange(2)), ("b", chance.randrange(2))) for _ in range(20))
        self.assertEqual(len(self.same(self.latch(), givens)), 20)

    def test_by_chance(self):
        words = {}
        for seed in range(200):
            some, given, worths = given_list(seed)
            chance = random.Random(seed)
            names = sorted({name for name, net in some[1]} - {"up", "down"})
            givens = tuple(
                tuple((name, chance.randrange(2)) for name in names if chance.randrange(3)) for _ in range(seed % 6)
            )
            if any(is_refused(some, given) for given in givens):
                self.refused(NoGiven, played, some, givens)
                continue
            words.update({entry[0]: True for entry in self.same(some, givens)})
        self.assertEqual(set(words), {"rest", "ring"})


class TestPlayedRefused(Tables):
    def test_by_any_of_the_givens(self):
        some = list_of(2, [("a", 0), ("b", 1), ("up", 1)], ())
        good, bad, none = (("a", 0),), (("b", 0),), (("c", 1),)
        self.assertEqual(len(played(some, (good, good))), 2)
        for wrong in (bad, none):
            for givens in ((wrong,), (wrong, good), (good, wrong), (good, good, wrong)):
                self.refused(NoGiven, played, some, givens)

    def test_too_long(self):
        some = too_long_list()
        self.assertEqual(played(some, ((("a", 0),),))[0][0], "rest")
        self.refused(TooLong, played, some, ((("a", 1),),))
        self.refused(TooLong, played, some, ((("a", 0),), (("a", 1),), (("a", 0),)))

    def test_no_given_comes_ahead_of_too_long(self):
        some = too_long_list()
        for wrong in ((("b", 1),), (("q", 1), ("z", 0))):
            self.refused(NoGiven, played, some, ((("a", 1),), wrong))
            self.refused(NoGiven, played, some, ((("a", 1),), (("a", 0),), wrong, (("a", 1),)))

    def test_up_and_down_on_one_net(self):
        some = list_of(1, [("down", 0), ("up", 0)], ())
        self.refused(NoGiven, played, some, ((),))
        self.assertEqual(played(some, ()), [])


class TestTold(Tables):
    def test_a_list_that_was_told_is_the_askers_own(self):
        some = list_of(4, ENDS + [("a", 2), ("q", 3)], turner(2, 3, 0, 1))
        givens = ((("a", 1),), (("a", 0),))
        told = played(some, givens)
        kept = list(told)
        told.append("more")
        del told[0]
        self.assertEqual(played(some, givens), kept)
        self.assertEqual(givens, ((("a", 1),), (("a", 0),)))

    def test_asked_again(self):
        for seed in range(40):
            some, given, worths = given_list(seed)
            if is_refused(some, given):
                continue
            told = played(some, (given, ()))
            self.assertEqual((some, given, worths), given_list(seed))
            self.assertEqual(played(some, (given, ())), told)


if __name__ == "__main__":
    unittest.main()
