"""Point 26, and 2 and 3 of it."""

import itertools
import unittest

from maskwright.alike import held
from maskwright.errors import TooMuch
from maskwright.papers import looked
from tests.boards import odd_things, within
from tests.circuits import closed_way, ends_pair, list_of, loop_pair, renamed, ring_pair, shuffled, some_list

BARE = (0, (), ())
TRIES = ("tries", 0, (("marks", 1), ("marks", 1), ("marks", 0)))


def lone_nets(many, names=()):
    return (many, tuple(names), ())


def changed_at(thing, path, new):
    """A thing of tuples with what stands at a path of numbers exchanged."""
    if not path:
        return new
    at = path[0]
    return thing[:at] + (changed_at(thing[at], path[1:], new),) + thing[at + 1:]


def paths(thing):
    """The paths to all that stands within tuples."""
    yield ()
    if isinstance(thing, tuple):
        for at, part in enumerate(thing):
            for path in paths(part):
                yield (at,) + path


def at_path(thing, path):
    for at in path:
        thing = thing[at]
    return thing


class Looked(unittest.TestCase):
    def told(self, one, other, thing, answer):
        self.assertIs(looked(one, other, thing), answer, (one, other, thing))

    def each_change_is_seen(self, one, other, paper):
        """With any part exchanged for another thing the paper is none."""
        self.told(one, other, paper, True)
        for path in paths(paper):
            part = at_path(paper, path)
            news = [None, True, False, "", "one", "two", "marks", "tries", 0, 1, 2, 99, -1, (), [], ("marks", 0),
                    ("marks", 1), ("marks", 2), TRIES, ("one", (0, 1))]
            if isinstance(part, tuple):
                news += [list(part), part[:-1], part + part[-1:], part + (0,), (part,), part[1:]]
            if isinstance(part, int):
                news += [part + 1, part - 1, str(part), (part,), [part]]
            for new in news:
                thing = changed_at(paper, path, new)
                self.told(one, other, thing, repr(thing) == repr(paper))


class TestOddThings(Looked):
    def test_any_thing(self):
        lists = [BARE, lone_nets(2), lone_nets(3), loop_pair()[0], loop_pair()[1], some_list(1)]
        for one, other in itertools.product(lists, repeat=2):
            for thing in odd_things():
                self.told(one, other, thing, False)
                self.told(one, other, ("one", thing), False)
                self.told(one, other, ("two", thing), False)
                if type(thing) is not int:
                    self.told(one, other, ("two", ("marks", thing)), False)
                self.told(one, other, ("two", ("tries", 0, thing)), False)
                self.told(one, other, ("two", ("tries", thing, ())), False)

    def test_without_nets(self):
        self.told(BARE, BARE, ("one", ()), True)
        for thing in (("one", (0,)), ("one", []), ["one", ()], ("two", ("marks", 0)), ("two", ("tries", 0, ())), ("one",)):
            self.told(BARE, BARE, thing, False)

    def test_deep_things(self):
        one, other = loop_pair(lone=2)
        for deep in range(8):
            self.told(one, other, ("two", ("tries", 0, (within(("marks", 0), deep),) * 5)), False)


class TestOne(Looked):
    def test_what_is_told(self):
        for seed in range(40):
            some = some_list(seed, many=2 + seed % 7, switches=seed % 9, names="ab"[:seed % 3])
            other = renamed(some, shuffled(some[0], seed))
            self.told(some, other, held(some, other), True)
            self.told(some, other, ("one", tuple(shuffled(some[0], seed))), True)

    def test_each_renaming(self):
        ring = list_of(5, [("g", 4)], closed_way([0, 1, 2, 3], 4))
        for some in (lone_nets(4), lone_nets(4, [("a", 1), ("a", 2)]), ring, loop_pair()[0], some_list(3, many=4)):
            other = renamed(some, shuffled(some[0], 2))
            for new in itertools.permutations(range(some[0])):
                self.told(some, other, ("one", new), renamed(some, new) == other)

    def test_the_way_round(self):
        one = lone_nets(3, [("a", 0), ("b", 1), ("c", 2)])
        other = lone_nets(3, [("a", 1), ("b", 2), ("c", 0)])
        self.told(one, other, ("one", (1, 2, 0)), True)
        self.told(one, other, ("one", (2, 0, 1)), False)

    def test_the_lesser_end_ahead(self):
        one = list_of(3, (), [("n", 0, 1, 2, 1, 1)])
        self.told(one, one, ("one", (0, 2, 1)), True)
        self.told(one, one, ("one", (1, 0, 2)), False)

    def test_no_renamings(self):
        some = lone_nets(3)
        for new in ((0, 1, 1), (0, 0, 0), (0, 1), (0, 1, 2, 3), (0, 1, 2, 2), (1, 2, 3), (-1, 0, 1), (0, 1, -1), ()):
            self.told(some, some, ("one", new), False)
        for new in ([0, 1, 2], (0, True, 2), (False, 1, 2), ("0", 1, 2), (None, 1, 2), ((0,), 1, 2), "012", 3, None):
            self.told(some, some, ("one", new), False)
        self.told(some, some, ("one", (0, 1, 2), ()), False)
        self.told(some, some, ["one", (0, 1, 2)], False)
        self.told(some, some, ("One", (0, 1, 2)), False)
        self.told(some, some, ("two", (0, 1, 2)), False)

    def test_each_change(self):
        some = list_of(3, [("a", 0)], [("n", 0, 1, 2, 1, 1), ("p", 0, 1, 1, 1, 1)])
        self.each_change_is_seen(some, some, ("one", (0, 1, 2)))

    def test_of_lists_that_are_two(self):
        pairs = [ring_pair(), loop_pair(), ends_pair(2), (lone_nets(3), lone_nets(3, [("a", 0)]))]
        pairs.append((list_of(3, (), [("n", 0, 1, 2, 1, 1)]), list_of(3, (), [("n", 0, 1, 2, 1, 1)] * 2)))
        for one, other in pairs:
            for new in itertools.islice(itertools.permutations(range(one[0])), 5040):
                self.told(one, other, ("one", new), False)

    def test_of_unlike_many_nets(self):
        for new in ((), (0,), (0, 1), (1, 0), (0, 1, 2)):
            self.told(lone_nets(1), lone_nets(2), ("one", new), False)
            self.told(lone_nets(2), lone_nets(1), ("one", new), False)


class TestTwo(Looked):
    def test_marks(self):
        for steps in (1, 2, 5, 9):
            one, other = ends_pair(steps)
            for rounds in range(-1, 24):
                self.told(one, other, ("two", ("marks", rounds)), rounds == 1 + steps // 2)
            self.each_change_is_seen(one, other, ("two", ("marks", 1 + steps // 2)))

    def test_unlike_many(self):
        pairs = [(lone_nets(2), lone_nets(3)), (lone_nets(20), BARE), (BARE, lone_nets(1))]
        pairs.append((list_of(3, (), [("n", 0, 1, 2, 1, 1)]), list_of(3, (), [("n", 0, 1, 2, 1, 1)] * 2)))
        for one, other in pairs:
            self.told(one, other, ("two", ("marks", 0)), True)
            for thing in (("marks", 1), ("marks", False), ["marks", 0], ("marks", 0, 0), ("tries", 0, ()), "marks"):
                self.told(one, other, ("two", thing), False)

    def test_tries_each_change(self):
        one, other = loop_pair()
        self.assertEqual(held(one, other), ("two", TRIES))
        self.each_change_is_seen(one, other, ("two", TRIES))
        one, other = ring_pair()
        self.each_change_is_seen(one, other, held(one, other))

    def test_tries_within_tries_each_change(self):
        one, other = loop_pair(lone=2)
        self.each_change_is_seen(one, other, held(one, other))
        one, other = loop_pair(lone=3)
        self.each_change_is_seen(one, other, held(one, other))

    def test_papers_exchanged(self):
        one, other = ring_pair()
        word, (tries, net, papers) = held(one, other)
        self.told(one, other, (word, (tries, net, papers[::-1])), False)
        self.told(one, other, (word, (tries, net, papers[:-1])), False)
        self.told(one, other, (word, (tries, net, papers[1:])), False)
        self.told(one, other, (word, (tries, net, papers + papers[-1:])), False)
        self.told(one, other, (word, (tries, 1, papers)), False)
        self.told(one, other, (word, (tries, False, papers)), False)
        self.told(one, other, (word, (tries, net, list(papers))), False)

    def test_of_lists_that_are_one(self):
        one, other = loop_pair()
        for some in (lone_nets(1), lone_nets(2), one, other, lone_nets(3, [("a", 0)])):
            same = renamed(some, shuffled(some[0], 1))
            for rounds in range(8):
                self.told(some, same, ("two", ("marks", rounds)), False)
            for net in range(some[0]):
                for rounds in itertools.product(range(3), repeat=some[0]):
                    papers = tuple(("marks", number) for number in rounds)
                    self.told(some, same, ("two", ("tries", net, papers)), False)

    def test_tries_where_marks_part(self):
        one, other = ends_pair(1)
        self.told(one, other, ("two", ("tries", 0, (("marks", 1),) * one[0])), False)

    def test_what_is_told(self):
        for seed in range(60):
            one = some_list(seed, many=5, switches=4, sizes=(1,))
            other = some_list(seed + 4000, many=5, switches=4, sizes=(1,))
            paper = held(one, other)
            self.told(one, other, paper, True)
            self.told(other, one, paper, held(other, one) == paper or renames_back(one, other, paper))


def renames_back(one, other, paper):
    return paper[0] == "one" and renamed(other, paper[1]) == one


class TestRefusedLists(Looked):
    """Lists that are refused when held against one another are looked at all the same."""

    def refused(self, one, other):
        with self.assertRaises(TooMuch):
            held(one, other)

    def test_one(self):
        for many in (9, 40):
            some = lone_nets(many)
            self.refused(some, some)
            self.told(some, some, ("one", tuple(shuffled(many, 3))), True)
            self.told(some, some, ("one", tuple(shuffled(many, 3))[:-1] + (0,)), False)
            self.told(some, some, ("two", ("marks", 0)), False)
            self.told(some, some, ("two", ("tries", 0, (("marks", 0),) * many)), False)

    def test_two(self):
        # Twelve nets around, or two times six: more than eight are alike, yet each try parts them.
        names = [("g", 12)]
        one = list_of(13, names, closed_way(list(range(12)), 12))
        other = list_of(13, names, closed_way(list(range(6)), 12) + closed_way(list(range(6, 12)), 12))
        self.refused(one, other)
        good = ("two", ("tries", 0, (("marks", 3),) * 12 + (("marks", 0),)))
        found = [
            rounds for rounds in range(14)
            if looked(one, other, ("two", ("tries", 0, (("marks", rounds),) * 12 + (("marks", 0),))))
        ]
        self.assertEqual(found, [3])
        self.told(one, other, good, True)
        self.told(one, other, changed_at(good, (1, 2, 5), ("marks", 2)), False)
        self.told(one, other, changed_at(good, (1, 2, 12), ("marks", 3)), False)
        self.told(one, other, changed_at(good, (1, 1), 1), False)
        self.told(one, one, good, False)

    def test_much_that_is_wrong_is_soon_told(self):
        some = lone_nets(40)
        papers = tuple(("tries", 1, (("marks", 0),) * 40) for _ in range(40))
        self.told(some, some, ("two", ("tries", 0, papers)), False)


class TestNeverBoth(Looked):
    def test_one_and_two(self):
        parting = [("marks", rounds) for rounds in range(4)]
        parting += [("tries", net, papers) for net in range(3) for papers in itertools.product(parting, repeat=3)]
        for seed in range(40):
            one = some_list(seed, many=3, switches=2, sizes=(1,))
            other = some_list(seed + 60, many=3, switches=2, sizes=(1,))
            ones = [new for new in itertools.permutations(range(3)) if looked(one, other, ("one", new))]
            twos = [paper for paper in parting if looked(one, other, ("two", paper))]
            self.assertLessEqual(len(twos), 1)
            self.assertFalse(ones and twos)
            self.assertTrue(ones or twos)


class TestAskedAgain(Looked):
    def test_the_same(self):
        one, other = loop_pair(lone=2)
        paper = held(one, other)
        thing = ["two", [paper, [1, 2]]]
        for _ in range(2):
            self.told(one, other, paper, True)
            self.told(one, other, thing, False)
        self.assertEqual(thing, ["two", [paper, [1, 2]]])
        self.assertEqual((one, other), loop_pair(lone=2))


if __name__ == "__main__":
    unittest.main()
