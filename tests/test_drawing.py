"""Point 38, and 2 and 3 of it."""

import itertools
import unittest

from maskwright.alike import held
from maskwright.drawing import drawn
from maskwright.errors import TooMuch
from maskwright.making import made
from maskwright.nets import net_at
from maskwright.papers import looked
from maskwright.regions import is_region, rects_of
from maskwright.rows import least_row
from maskwright.rules import breaks, house_rules
from maskwright.sheets import turned_sheet
from maskwright.switches import faults, listed
from maskwright.tables import table
from tests.circuits import renamed, shuffled
from tests.forms import A, B, C, D, E, F, all_names, chained, nots, some_formula, truths_in
from tests.test_rows import all_rows, some_row

SEVEN = (
    ("not", ("and", ("and", ("or", A, B), ("or", C, D)), ("and", E, ("or", F, A)))),
    ("and", chained("and", "abc"), A), ("or", chained("or", "abc"), B), ("and", chained("and", "abc"), ("not", D)),
    ("not", ("or", ("and", A, ("or", B, C)), ("and", ("or", D, E), ("or", F, A)))),
    ("not", ("or", ("or", A, ("or", A, A)), ("or", ("or", A, A), ("or", A, A)))),
    ("not", ("and", ("and", A, ("and", A, A)), ("and", ("and", A, A), ("and", A, A)))),
)


def made_lists(most, seeds=200):
    """What is made for formulas by chance, of at most so many pairs."""
    told = []
    for seed in range(seeds):
        formula = some_formula(seed, deep=4)
        try:
            some, pairs = made(formula, "q")
        except TooMuch:
            continue
        if len(pairs) <= most:
            told.append((formula, some, pairs))
    return told


class Drawing(unittest.TestCase):
    def checked(self, some, pairs, row):
        """A sheet drawn, when all that point 38 says of it was looked at."""
        sheet = drawn(some, pairs, row)
        self.assertTrue(type(sheet) is tuple and len(sheet) == 2)
        regions, marks = sheet
        self.assertEqual(len(regions), 6)
        self.assertTrue(type(regions) is tuple and all(is_region(some) for some in regions))
        self.assertLessEqual(sum(len(rects_of(some)) for some in regions), 200)
        self.assertEqual(breaks(sheet, house_rules()), [])
        taken = listed(sheet)
        paper = held(some, taken)
        self.assertEqual(paper[0], "one")
        self.assertTrue(looked(some, taken, paper))
        self.assertTrue(type(marks) is tuple and marks == tuple(sorted(marks)))
        self.assertEqual([mark[0] for mark in marks], [name for name, net in some[1]])
        names = dict(some[1])
        for name, layer, x, y in marks:
            self.assertEqual(net_at(sheet, layer, x, y), paper[1][names[name]])
        self.assertEqual(faults(sheet), ((), (), ()))
        return sheet


class TestDrawn(Drawing):
    def test_one_pair(self):
        some, pairs = made(("not", A), "q")
        self.assertEqual(len(pairs), 1)
        for row in all_rows(1):
            self.checked(some, pairs, row)

    def test_two_pairs_each_row(self):
        for formula in (A, ("not", ("and", A, B)), ("not", ("or", A, B)), ("not", ("or", A, A)), nots(3, ("and", A, A))):
            some, pairs = made(formula, "q")
            self.assertEqual(len(pairs), 2)
            for row in all_rows(2):
                self.checked(some, pairs, row)

    def test_three_pairs_each_row(self):
        some, pairs = made(("not", ("and", A, ("or", B, C))), "q")
        for row in all_rows(3):
            self.checked(some, pairs, row)

    def test_least_rows(self):
        for formula, some, pairs in made_lists(7):
            self.checked(some, pairs, least_row(some, pairs)[1])

    def test_any_other_row(self):
        for seed, (formula, some, pairs) in enumerate(made_lists(7, 80)):
            for at in range(3):
                self.checked(some, pairs, some_row(3 * seed + at, len(pairs)))

    def test_seven_pairs(self):
        for formula in SEVEN:
            some, pairs = made(formula, "q")
            self.assertEqual(len(pairs), 7)
            self.checked(some, pairs, least_row(some, pairs)[1])
            for seed in range(12):
                self.checked(some, pairs, some_row(seed, 7))
            for a, b in itertools.product((0, 1), repeat=2):
                self.checked(some, pairs, tuple((pair, a, b) for pair in range(7)))

    def test_nets_numbered_otherwise(self):
        some, pairs = made(("or", ("and", A, ("not", B)), ("and", ("not", A), B)), "out")
        for seed in range(8):
            new = shuffled(some[0], seed)
            other = renamed(some, new)
            moved = [(row[0], new[row[1]], *sorted(new[net] for net in row[2:4]), 6, 2) for row in some[2]]
            there = tuple((other[2].index(moved[i]), other[2].index(moved[j])) for i, j in pairs)[::-1]
            self.checked(other, there, least_row(other, there)[1])
            self.checked(other, there, some_row(seed, len(there)))

    def test_fewer_cuts_make_it_narrower(self):
        some, pairs = made(("not", ("and", A, B)), "q")
        wide = {}
        for row in all_rows(2):
            n_ground = drawn(some, pairs, row)[0][0]
            wide.setdefault(len(rects_of(n_ground)), []).append(row)
        self.assertEqual(set(wide), {1, 2})
        self.assertIn(least_row(some, pairs)[1], wide[1])


class TestWhatIsDrawn(Drawing):
    def test_it_has_the_formulas_table(self):
        for formula, some, pairs in made_lists(7, 120):
            ins = tuple(all_names(formula))
            sheet = drawn(some, pairs, least_row(some, pairs)[1])
            self.assertEqual(list(table(listed(sheet), ins, "q")), truths_in(formula, ins))

    def test_turned_and_mirrored(self):
        some, pairs = made(("or", A, ("not", B)), "q")
        sheet = drawn(some, pairs, least_row(some, pairs)[1])
        for turn in range(8):
            other = turned_sheet(sheet, turn, 1000, -300)
            self.assertEqual(breaks(other, house_rules()), [])
            self.assertEqual(held(listed(other), some)[0], "one")

    def test_asked_again(self):
        for formula, some, pairs in made_lists(7, 40):
            row = some_row(7, len(pairs))
            kept = (some[0], tuple(some[1]), tuple(some[2])), tuple(pairs), tuple(row)
            told = drawn(some, pairs, row)
            self.assertEqual((some, pairs, row), kept)
            self.assertEqual(drawn(some, pairs, row), told)


if __name__ == "__main__":
    unittest.main()
