"""Points 1, 2 and 3 over the whole program."""

import itertools
import unittest

from maskwright.alike import held
from maskwright.desk import Desk
from maskwright.drawing import drawn
from maskwright.errors import TooMuch
from maskwright.formulas import bits_of, unlike_at
from maskwright.houses import flat, is_house
from maskwright.lists import is_list, put_together
from maskwright.making import made
from maskwright.papers import looked
from maskwright.reading import read_formula, read_house, read_list, read_rules
from maskwright.regions import rects_of
from maskwright.rows import cuts_of, least_row
from maskwright.rules import break_of, breaks, house_rules
from maskwright.sheets import laid_over, turned_sheet
from maskwright.switches import faults, listed
from maskwright.tables import played, table
from maskwright.ways import ways
from maskwright.writing import formula_text, house_text, list_text, rules_text
from tests.boards import LAYERS
from tests.forms import all_names, some_formula, truths_in
from tests.test_rows import some_row


def drawn_formulas(seeds, deep=4):
    """Formulas by chance for which lists are made, with what is made for them."""
    told = []
    for seed in range(seeds):
        formula = some_formula(seed, deep=deep)
        try:
            told.append((formula, *made(formula, "q")))
        except TooMuch:
            continue
    return told


def cell_of(name, sheet):
    """A cell with the rects of a sheet."""
    rects = [(layer, *rect) for layer, some in zip(LAYERS, sheet[0]) for rect in rects_of(some)]
    return (name, tuple(rects), sheet[1], ())


class Whole(unittest.TestCase):
    def has_table(self, some, formula):
        """A list has the formula's table, no net clashes, and out is not open."""
        ins = tuple(all_names(formula))
        self.assertEqual(table(some, ins, "q"), bits_of(formula, ins))
        self.assertEqual(list(table(some, ins, "q")), truths_in(formula, ins))
        net = min(net for name, net in some[1] if name == "q")
        for bits in itertools.product((0, 1), repeat=len(ins)):
            given = tuple(zip(ins, bits))
            told = played(some, (given,))[0]
            self.assertEqual(told[0], "rest")
            self.assertNotIn(2, told[1])
            self.assertEqual(len(ways(some, given, told[1], net)), 1)

    def are_one(self, one, other):
        paper = held(one, other)
        self.assertEqual(paper[0], "one")
        self.assertTrue(looked(one, other, paper))


class TestAFormulaDrawn(Whole):
    def test_drawn_laid_flat_listed(self):
        found = drawn_formulas(160)
        self.assertGreater(len(found), 60)
        for formula, some, pairs in found:
            cuts, row = least_row(some, pairs)
            self.assertEqual(cuts_of(some, pairs, row), cuts)
            house = (cell_of("drawn", drawn(some, pairs, row)),)
            self.assertTrue(is_house(house))
            again = read_house(house_text(house))
            self.assertEqual(again, house)
            sheet = flat(again, "drawn")
            self.assertEqual(sheet, drawn(some, pairs, row))
            self.assertEqual(breaks(sheet, house_rules()), [])
            self.assertEqual(faults(sheet), ((), (), ()))
            taken = listed(sheet)
            self.assertTrue(is_list(taken))
            self.are_one(some, taken)
            self.has_table(taken, formula)
            self.assertEqual(read_list(list_text(taken)), taken)

    def test_any_row_has_the_table(self):
        for seed, (formula, some, pairs) in enumerate(drawn_formulas(40)):
            self.has_table(listed(drawn(some, pairs, some_row(seed, len(pairs)))), formula)

    def test_by_a_desk(self):
        for formula, some, pairs in drawn_formulas(60):
            desk = Desk()
            self.assertEqual(desk.say(f"draw x q {formula_text(formula)}"), str(least_row(some, pairs)[0]))
            ins = all_names(formula)
            bits = " ".join(map(str, truths_in(formula, ins)))
            self.assertEqual(desk.say(f"table x q {','.join(ins)}"), bits)
            self.assertEqual(desk.say("breaks x"), "none")
            self.assertEqual(desk.say("faults x"), "loose; open; short")
            self.are_one(read_list(desk.say("list x")), some)
            other = Desk()
            for row in desk.say("house").split("\n"):
                self.assertEqual(other.say(row), "ok")
            self.assertEqual(other.say("house"), desk.say("house"))

    def test_two_formulas_are_told_apart_by_their_drawings(self):
        found = drawn_formulas(60, deep=3)
        ins = tuple("abcdef")
        for (one, some, pairs), (other, more, there) in zip(found, found[1:]):
            lists = [listed(drawn(*args, least_row(*args)[1])) for args in ((some, pairs), (more, there))]
            paper = held(*lists)
            self.assertTrue(looked(*lists, paper))
            if paper[0] == "one":
                self.assertIsNone(unlike_at(one, other, ins))

    def test_turned_mirrored_and_side_by_side(self):
        formula, some, pairs = drawn_formulas(60)[20]
        more, there = made(("not", ("in", "z")), "y")
        sheet = drawn(some, pairs, least_row(some, pairs)[1])
        other = drawn(more, there, least_row(more, there)[1])
        for turn in range(8):
            self.are_one(listed(turned_sheet(sheet, turn, -7, 12)), some)
            together = laid_over(sheet, turned_sheet(other, turn, 5000, 5000))
            self.assertEqual(breaks(together, house_rules()), [])
            self.are_one(put_together([some, more]), listed(together))

    def test_used_again(self):
        formula, some, pairs = drawn_formulas(60)[5]
        cell = cell_of("low", drawn(some, pairs, least_row(some, pairs)[1]))
        for turn in range(8):
            house = (cell, ("top", (), (), (("low", turn, 60000, -60000),)))
            self.are_one(listed(flat(house, "top")), some)
            self.assertEqual(breaks(flat(house, "top"), house_rules()), [])


class TestWrittenAndRead(Whole):
    def test_the_rules_of_the_house(self):
        self.assertEqual(read_rules(rules_text(house_rules())), house_rules())
        desk = Desk()
        desk.say("draw x q (a|b)")
        for rule in rules_text(house_rules()).split("\n"):
            self.assertEqual(desk.say(f"break x {rule}"), "none")

    def test_formulas(self):
        for seed in range(80):
            formula = some_formula(seed)
            self.assertEqual(read_formula(formula_text(formula)), formula)


class TestToldListsAreTheAskersOwn(Whole):
    def test_changed_by_the_asker(self):
        formula, some, pairs = drawn_formulas(30)[3]
        sheet = drawn(some, pairs, least_row(some, pairs)[1])
        given = tuple((name, 1) for name in all_names(formula))
        asked = [
            lambda: rects_of(sheet[0][3]), lambda: breaks(sheet, house_rules() + (("width", "n", 9),)),
            lambda: played(some, (given, ())),
            lambda: ways(some, given, (0,) * some[0], dict(some[1])["q"]),
        ]
        for ask in asked:
            told = ask()
            kept = list(told)
            told.append("mine")
            del told[0]
            self.assertEqual(ask(), kept)

    def test_a_desk_hangs_on_its_rows_alone(self):
        rows = ["cell a", "rect n 0 0 9 4", "rect g 3 -2 5 6", "draw b q !a"]
        desk = Desk()
        for row in rows:
            desk.say(row)
            for asked in ("house", "breaks a", "list a", "nets a", "rects a n"):
                desk.say(asked)
        other = Desk()
        for row in rows:
            other.say(row)
        for asked in ("house", "breaks a", "list a", "nets b", "rects b w", "table b q a"):
            self.assertEqual(desk.say(asked), other.say(asked))
        self.assertIsNone(break_of(flat(read_house(desk.say("house")), "b"), ("width", "n", 2)))


if __name__ == "__main__":
    unittest.main()
