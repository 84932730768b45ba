"""Point 37, and 2 of it."""

import itertools
import random
import unittest

from maskwright.errors import TooMuch
from maskwright.making import made
from maskwright.rows import cuts_of, least_row
from tests.circuits import renamed, shuffled
from tests.forms import A, B, C, D, E, F, chained, some_formula

TURNINGS = tuple(itertools.product((0, 1), repeat=2))


def all_rows(many):
    """All rows of so many pairs."""
    for order in itertools.permutations(range(many)):
        for turns in itertools.product(TURNINGS, repeat=many):
            yield tuple((pair, a, b) for pair, (a, b) in zip(order, turns))


def some_row(seed, many):
    """A row by chance, the same for each seed."""
    chance = random.Random(seed)
    return tuple((pair, chance.randrange(2), chance.randrange(2)) for pair in shuffled(many, seed))


def left_and_right(switch, turning):
    """The ends of a switch from left to right: the lesser one at the left where it is 0."""
    ends = sorted(switch[2:4])
    return ends if turning == 0 else ends[::-1]


def cuts_by_words(some, pairs, row):
    """How many cuts a row has, by point 37's words."""
    cuts = 0
    for (ahead, a, b), (here, c, d) in zip(row, row[1:]):
        n_there = left_and_right(some[2][pairs[ahead][0]], a)[1] == left_and_right(some[2][pairs[here][0]], c)[0]
        p_there = left_and_right(some[2][pairs[ahead][1]], b)[1] == left_and_right(some[2][pairs[here][1]], d)[0]
        cuts += not (n_there and p_there)
    return cuts


def lists_of_pairs(most, seeds=400):
    """What is made for formulas by chance, of at most so many pairs."""
    told = []
    for seed in range(seeds):
        try:
            some, pairs = made(some_formula(seed, deep=4, names="abc"), "q")
        except TooMuch:
            continue
        if len(pairs) <= most:
            told.append((some, pairs))
    return told


class Rows(unittest.TestCase):
    def checked(self, some, pairs):
        """The least row, when its form and its own cuts were looked at."""
        told = least_row(some, pairs)
        self.assertTrue(type(told) is tuple and len(told) == 2)
        cuts, row = told
        self.assertTrue(type(cuts) is int and type(row) is tuple)
        self.assertEqual(sorted(place[0] for place in row), list(range(len(pairs))))
        for place in row:
            self.assertTrue(type(place) is tuple and len(place) == 3)
            self.assertTrue(all(type(number) is int for number in place))
            self.assertIn(place[1:], TURNINGS)
        self.assertEqual(cuts_by_words(some, pairs, row), cuts)
        self.assertEqual(cuts_of(some, pairs, row), cuts)
        return told


class TestCuts(Rows):
    def test_one_pair(self):
        some, pairs = made(("not", A), "q")
        for row in all_rows(1):
            self.assertEqual(cuts_of(some, pairs, row), 0)

    def test_two_behind_one_another(self):
        # The nets: down 0, up 1, x 2, y 3, the gates 4 and 5.
        some = (6, (), (("n", 4, 0, 2, 6, 2), ("n", 5, 2, 3, 6, 2), ("p", 4, 1, 3, 6, 2), ("p", 5, 1, 3, 6, 2)))
        pairs = ((0, 2), (1, 3))
        self.assertEqual(cuts_of(some, pairs, ((0, 0, 0), (1, 0, 1))), 0)
        self.assertEqual(cuts_of(some, pairs, ((0, 0, 1), (1, 0, 0))), 0)
        self.assertEqual(cuts_of(some, pairs, ((0, 0, 0), (1, 0, 0))), 1)
        self.assertEqual(cuts_of(some, pairs, ((0, 1, 0), (1, 0, 1))), 1)
        self.assertEqual(cuts_of(some, pairs, ((0, 1, 0), (1, 1, 0))), 1)
        self.assertEqual(cuts_of(some, pairs, ((1, 1, 0), (0, 1, 1))), 0)
        self.assertEqual(cuts_of(some, pairs, ((1, 1, 1), (0, 1, 0))), 0)

    def test_any_row(self):
        seen = {}
        for some, pairs in lists_of_pairs(3, 80):
            for row in list(all_rows(len(pairs)))[::5]:
                told = cuts_of(some, pairs, row)
                self.assertIs(type(told), int)
                self.assertEqual(told, cuts_by_words(some, pairs, row))
                seen[told] = True
        self.assertEqual(set(seen), {0, 1, 2})

    def test_seven_pairs(self):
        some, pairs = made(("not", ("and", ("and", ("or", A, B), ("or", C, D)), ("and", E, ("or", F, A)))), "q")
        rows = [some_row(seed, 7) for seed in range(500)]
        for row in rows:
            self.assertEqual(cuts_of(some, pairs, row), cuts_by_words(some, pairs, row))
        self.assertGreater(len({cuts_of(some, pairs, row) for row in rows}), 3)


class TestLeast(Rows):
    def test_one_pair_alone(self):
        some, pairs = made(("not", A), "q")
        self.assertEqual(self.checked(some, pairs)[0], 0)

    def test_as_few_as_any_row_has(self):
        seen = {}
        for some, pairs in lists_of_pairs(3):
            least = min(cuts_by_words(some, pairs, row) for row in all_rows(len(pairs)))
            self.assertEqual(self.checked(some, pairs)[0], least)
            seen[len(pairs)] = True
        self.assertEqual(set(seen), {1, 2, 3})

    def test_four_pairs_by_all_rows(self):
        seen = {}
        found = [(some, pairs) for some, pairs in lists_of_pairs(4) if len(pairs) == 4]
        for some, pairs in found[:12]:
            least = min(cuts_by_words(some, pairs, row) for row in all_rows(4))
            self.assertEqual(self.checked(some, pairs)[0], least)
            seen[least] = True
        self.assertIn(0, seen)

    def test_rows_that_need_cuts(self):
        # Three pairs without a net in common, and switches that have one on the n side alone.
        lone = tuple([("n", 0, 2 * at + 1, 2 * at + 2, 6, 2) for at in range(3)]
                     + [("p", 0, 2 * at + 7, 2 * at + 8, 6, 2) for at in range(3)])
        self.assertEqual(self.checked((13, (), lone), ((0, 3), (1, 4), (2, 5)))[0], 2)
        half = tuple([("n", 0, 1, 2, 6, 2)] * 3 + [("p", 0, 2 * at + 7, 2 * at + 8, 6, 2) for at in range(3)])
        self.assertEqual(self.checked((13, (), half), ((0, 3), (1, 4), (2, 5)))[0], 2)

    def test_both_sides_need_one_another(self):
        # Each side by itself needs no cut, but in another order each.
        rows = [("n", 0, 1, 2, 6, 2), ("n", 0, 2, 3, 6, 2), ("n", 0, 3, 4, 6, 2)]
        rows += [("p", 0, 5, 6, 6, 2), ("p", 0, 6, 7, 6, 2), ("p", 0, 7, 8, 6, 2)]
        some = (9, (), tuple(rows))
        for pairs in (((0, 3), (1, 4), (2, 5)), ((0, 3), (1, 5), (2, 4)), ((0, 4), (1, 3), (2, 5))):
            least = min(cuts_by_words(some, pairs, row) for row in all_rows(3))
            self.assertEqual(self.checked(some, pairs)[0], least)
        self.assertEqual(self.checked(some, ((0, 3), (1, 4), (2, 5)))[0], 0)
        self.assertEqual(self.checked(some, ((0, 3), (1, 5), (2, 4)))[0], 1)

    def test_seven_pairs(self):
        formulas = [
            ("not", ("and", ("and", ("or", A, B), ("or", C, D)), ("and", E, ("or", F, A)))),
            ("and", chained("and", "abc"), A), ("or", chained("or", "abc"), B),
            ("not", ("or", ("and", A, ("or", B, C)), ("and", ("or", D, E), ("or", F, A)))),
        ]
        for formula in formulas:
            some, pairs = made(formula, "q")
            self.assertEqual(len(pairs), 7)
            cuts, row = self.checked(some, pairs)
            for seed in range(3000):
                self.assertLessEqual(cuts, cuts_by_words(some, pairs, some_row(seed, 7)))

    def test_seven_lone_pairs(self):
        rows = [("n", 0, 2 * at + 1, 2 * at + 2, 6, 2) for at in range(7)]
        rows += [("p", 0, 2 * at + 15, 2 * at + 16, 6, 2) for at in range(7)]
        pairs = tuple((at, at + 7) for at in range(7))
        self.assertEqual(self.checked((29, (), tuple(rows)), pairs)[0], 6)

    def test_does_not_hang_on_numbers(self):
        some, pairs = made(("or", ("and", A, ("not", B)), ("and", ("not", A), B)), "q")
        cuts = self.checked(some, pairs)[0]
        for seed in range(10):
            other = renamed(some, shuffled(some[0], seed))
            # Which switch stands where is told anew, by its own gate and ends.
            new = shuffled(some[0], seed)
            moved = [(row[0], new[row[1]], *sorted(new[net] for net in row[2:4]), 6, 2) for row in some[2]]
            there = tuple((other[2].index(moved[i]), other[2].index(moved[j])) for i, j in pairs)
            self.assertEqual(self.checked(other, there[::-1])[0], cuts)


class TestTold(Rows):
    def test_asked_again(self):
        for some, pairs in lists_of_pairs(7)[:40]:
            kept = (some[0], tuple(some[1]), tuple(some[2])), tuple(pairs)
            told = least_row(some, pairs)
            self.assertEqual(((some[0], some[1], some[2]), pairs), kept)
            self.assertEqual(least_row(some, pairs), told)


if __name__ == "__main__":
    unittest.main()
