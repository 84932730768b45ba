"""Points 44 and 45, and 2 of them."""

import random
import unittest

from maskwright.alike import held
from maskwright.desk import Desk
from maskwright.errors import NoCell, NoDeed, NoGiven, NoRow, NoSwitch, TooLong, TooMuch
from maskwright.houses import flat, is_house
from maskwright.lists import is_list
from maskwright.making import made
from maskwright.mixing import area, rim
from maskwright.reading import read_formula, read_house
from maskwright.regions import rects_of
from maskwright.rows import least_row
from maskwright.rules import break_of, breaks, house_rules
from maskwright.switches import faults, listed
from maskwright.tables import table
from maskwright.writing import house_text, list_text
from tests.boards import LAYERS, odd_things
from tests.circuits import list_of
from tests.forms import nots
from tests.test_tables import too_long_list
from tests.texts import house_rows, some_house

# A switch of n ground with its gate and ends marked, and a dot that is no switch.
SWITCH = ["rect n 0 0 9 4", "rect g 3 -2 5 6", "mark a g 3 0", "mark b n 0 0", "mark c n 8 3"]
DOT = ["rect n 4 7 5 8", "rect g 4 7 5 8"]

FAR = 2 ** 20


def desk_of(*rows):
    """A desk that was told some rows."""
    desk = Desk()
    for row in rows:
        desk.say(row)
    return desk


def house_at(desk):
    """The house that a desk keeps."""
    text = desk.say("house")
    return () if text == "none" else read_house(text)


def desk_with(house):
    """A desk that keeps a house."""
    return desk_of(*house_rows(house))


class Desks(unittest.TestCase):
    def answer(self, desk, row, answer):
        told = desk.say(row)
        self.assertEqual(told, answer, row)
        self.assertIs(type(told), str)

    def refused(self, desk, row, refusal):
        """A row is refused, and changes nothing."""
        ahead = desk.say("house")
        with self.assertRaises(refusal, msg=repr(row)) as caught:
            desk.say(row)
        self.assertIs(type(caught.exception), refusal, repr(row))
        self.assertEqual(desk.say("house"), ahead)
        return caught.exception


class TestPutting(Desks):
    def test_rows_of_a_house(self):
        desk = Desk()
        self.answer(desk, "house", "none")
        rows = ["cell low", "rect n 0 -3 12 4", "mark s v 2 -10", "cell top", "rect k 1 1 2 2", "use low 7 -5 6"]
        for at, row in enumerate(rows):
            self.answer(desk, row, "ok")
            self.answer(desk, "house", "\n".join(rows[:at + 1]))

    def test_in_any_order_behind_those_of_the_last_cell(self):
        desk = desk_of("cell a", "cell b", "use a 0 0 0", "mark s n 0 0", "rect n 0 0 1 1", "mark t n 1 1", "rect p 0 0 2 2")
        self.answer(desk, "house", "\n".join([
            "cell a", "cell b", "rect n 0 0 1 1", "rect p 0 0 2 2", "mark s n 0 0", "mark t n 1 1", "use a 0 0 0",
        ]))

    def test_any_house(self):
        for seed in range(60):
            house = some_house(seed)
            self.assertEqual(house_at(desk_with(house)), house)

    def test_at_the_bounds(self):
        rows = [f"cell {name}" for name in "abcdefghijkl"] + [f"rect k {-FAR} {-FAR} {FAR} {FAR}"] * 200
        rows += [f"mark zzzzzzzz v {FAR} {-FAR}"] * 40 + ["use k 7 65536 -65536"] * 20
        desk = desk_of(*rows)
        self.answer(desk, "house", "\n".join(rows))
        for row in ("cell m", "rect n 0 0 1 1", "mark a n 0 0", "use a 0 0 0"):
            self.refused(desk, row, NoDeed)


class TestUndo(Desks):
    def test_each_kind_of_row(self):
        rows = ["cell a", "rect n 0 0 1 1", "mark s n 0 0", "cell b", "use a 0 0 0", "draw c q !a", "cell d", "mark s n 1 1"]
        desk, texts = Desk(), []
        for row in rows:
            texts.append(desk.say("house"))
            desk.say(row)
        for text in reversed(texts):
            self.answer(desk, "undo", "ok")
            self.answer(desk, "house", text)
        self.refused(desk, "undo", NoDeed)

    def test_what_is_asked_or_refused_is_not_taken_back(self):
        desk = desk_of("cell a", "rect n 0 0 1 1")
        desk.say("area a n")
        self.refused(desk, "cell a", NoDeed)
        self.refused(desk, "rect n 0 0 0 0", NoDeed)
        self.refused(desk, "draw a q a", NoDeed)
        self.refused(desk, "area b n", NoCell)
        self.answer(desk, "undo", "ok")
        self.answer(desk, "house", "cell a")
        self.answer(desk, "undo", "ok")
        self.refused(desk, "undo", NoDeed)

    def test_undo_is_not_taken_back(self):
        desk = desk_of("cell a", "cell b", "undo", "cell c", "undo", "undo")
        self.answer(desk, "house", "none")
        self.refused(desk, "undo", NoDeed)
        self.answer(desk, "cell a", "ok")

    def test_more_than_two_hundred(self):
        desk = desk_of("cell a", *["rect n 0 0 1 1"] * 199)
        for _ in range(200):
            desk.say("undo")
        self.answer(desk, "house", "none")
        self.refused(desk, "undo", NoDeed)
        desk = desk_of("cell a", "cell b", *["rect n 0 0 1 1"] * 199)
        for _ in range(200):
            desk.say("undo")
        self.answer(desk, "house", "cell a")
        self.refused(desk, "undo", NoDeed)

    def test_the_oldest_can_not_be_taken_back_any_more(self):
        desk = desk_of("cell a", *["rect n 0 0 1 1"] * 200, "mark s n 0 0", *["undo"] * 5)
        # Of 202 rows five are taken back; of the 197 that stand the two oldest stay for good.
        for _ in range(195):
            desk.say("undo")
        self.answer(desk, "house", "cell a\nrect n 0 0 1 1")
        self.refused(desk, "undo", NoDeed)


class TestAsking(Desks):
    def switch(self):
        return desk_of("cell low", *SWITCH, "cell top", "use low 1 0 0", "use low 0 20 0", "rect w 0 0 3 3")

    def test_area_rim_rects(self):
        desk = desk_of("cell a", "rect n 0 0 4 4", "rect n 2 2 6 6", "rect p -3 -2 -1 0", "cell b", "use a 1 10 0")
        self.answer(desk, "area a n", "28")
        self.answer(desk, "rim a n", "24")
        self.answer(desk, "rects a n", "0,0,4,2 0,2,6,4 2,4,6,6")
        self.answer(desk, "rects a p", "-3,-2,-1,0")
        self.answer(desk, "area b n", "28")
        self.answer(desk, "rects b p", "10,-3,12,-1")
        for row in ("area", "rim"):
            self.answer(desk, f"{row} a k", "0")
        self.answer(desk, "rects a k", "none")

    def test_break_and_breaks(self):
        desk = desk_of("cell a", *SWITCH)
        self.answer(desk, "break a cross g n 3", "3 0 1")
        self.answer(desk, "break a cross g n 2", "none")
        self.answer(desk, "break a width n 5", "0 0 1")
        self.answer(desk, "breaks a", "none")
        desk = desk_of("cell a", "rect n -5 -4 -4 -2", "rect k 0 0 2 2", "rect p -2 -2 0 0")
        self.answer(desk, "breaks a", "0,-5,-4,1 12,-5,-4,2 13,0,0,2")
        self.answer(desk, "break a apart n p 4", "-5 -4 2")
        self.answer(desk, "break a within k w 1", "0 0 2")
        self.answer(desk, "break a width n 2", "-5 -4 1")

    def test_nets_and_net(self):
        desk = desk_of("cell a", *SWITCH)
        self.answer(desk, "nets a", "3")
        self.answer(desk, "net a n 0 0", "0")
        self.answer(desk, "net a n 8 3", "1")
        self.answer(desk, "net a g 4 5", "2")
        for row in ("net a n 3 0", "net a w 0 0", "net a k 0 0", "net a n -1 0", f"net a n {10 ** 39} -{10 ** 39}"):
            self.answer(desk, row, "none")
        self.answer(desk_of("cell a"), "nets a", "0")

    def test_list(self):
        desk = desk_of("cell a", *SWITCH, "cell b")
        self.answer(desk, "list a", "nets 3\nname a 2\nname b 0\nname c 1\nswitch n 2 0 1 4 2")
        self.answer(desk, "list b", "nets 0")

    def test_faults(self):
        desk = desk_of("cell a", *SWITCH)
        self.answer(desk, "faults a", "loose; open; short")
        for row in ("mark a n 0 -3", "mark z w 3 3", "mark b g 3 -2", "mark b n 8 0", "mark d n 8 0", "mark d n 0 1"):
            desk.say(row)
        self.answer(desk, "faults a", "loose a,n,0,-3 z,w,3,3; open b d; short a,b b,c,d b,d")
        self.answer(desk_of("cell a", "mark a n 0 -3"), "faults a", "loose a,n,0,-3; open; short")

    def test_one(self):
        desk = desk_of("cell a", *SWITCH, "cell b", "use a 5 7 7", "cell c", *SWITCH[:-1], "cell d")
        self.answer(desk, "one a b", "one")
        self.answer(desk, "one b a", "one")
        self.answer(desk, "one a a", "one")
        self.answer(desk, "one a c", "two")
        self.answer(desk, "one d a", "two")
        self.answer(desk, "one d d", "one")

    def test_table(self):
        desk = desk_of("draw a q (a&!b)")
        self.answer(desk, "table a q a,b", "0 1 0 0")
        self.answer(desk, "table a up a,b", "1 1 1 1")
        desk = desk_of("cell a", *SWITCH)
        self.answer(desk, "table a c a", "open open")
        self.answer(desk, "table a c a,b", "open 0 open 1")
        self.answer(desk, "table a c a,b,c", "0 0 0 0 1 1 1 1")
        # A gate that is the end of its own switch, and a ring of a turner by itself.
        turner = ["rect n 0 0 12 6", "rect p 0 12 12 18", "rect g 5 -4 7 22", "rect w 9 1 13 17", "rect k 10 2 12 4",
                  "rect k 10 14 12 16", "mark down n 0 0", "mark up p 0 12", "mark q w 9 1", "mark a v 99 0", "rect v 99 0 101 2"]
        desk = desk_of("cell a", *turner, "mark b g 5 20")
        self.answer(desk, "table a q b", "1 0")
        desk = desk_of("cell a", *turner, "rect w 3 19 13 23", "rect w 9 15 13 23", "rect k 5 20 7 22")
        self.answer(desk, "table a q a", "ring ring")
        desk = desk_of("cell a", *SWITCH, "rect n 20 0 29 4", "rect g 23 -2 25 6", "rect w 2 -6 26 -2", "rect g 3 -6 5 6",
                       "rect g 23 -6 25 6", "rect k 3 -5 5 -3", "rect k 23 -5 25 -3", "rect w 7 0 22 4", "rect k 7 1 8 3",
                       "rect k 20 1 21 3", "mark d n 28 0")
        self.answer(desk, "table a c a,b,d", "open 0 open 2 open 2 open 1")

    def test_what_the_functions_tell(self):
        for seed in range(40):
            house = some_house(seed)
            desk = desk_with(house)
            for name in [cell[0] for cell in house]:
                self.hold_against_functions(desk, house, name)

    def hold_against_functions(self, desk, house, name):
        sheet = flat(house, name)
        for layer, some in zip(LAYERS, sheet[0]):
            self.answer(desk, f"area {name} {layer}", str(area(some)))
            self.answer(desk, f"rim {name} {layer}", str(rim(some)))
            texts = [",".join(map(str, rect)) for rect in rects_of(some)]
            self.answer(desk, f"rects {name} {layer}", " ".join(texts) or "none")
        found = [",".join(map(str, row)) for row in breaks(sheet, house_rules())]
        self.answer(desk, f"breaks {name}", " ".join(found) or "none")
        broken = break_of(sheet, ("apart", "n", "p", 50))
        self.answer(desk, f"break {name} apart n p 50", " ".join(map(str, broken)) if broken else "none")
        loose, names, short = faults(sheet)
        texts = ["loose" + "".join(" " + ",".join(map(str, mark)) for mark in loose)]
        texts += ["open" + "".join(" " + one for one in names), "short" + "".join(" " + ",".join(row) for row in short)]
        self.answer(desk, f"faults {name}", "; ".join(texts))
        try:
            some = listed(sheet)
        except NoSwitch as refusal:
            told = self.refused(desk, f"list {name}", NoSwitch)
            self.assertEqual((told.x, told.y), (refusal.x, refusal.y))
            return
        self.answer(desk, f"list {name}", list_text(some))


class TestDraw(Desks):
    def test_the_number_of_cuts(self):
        for text in ("a", "!a", "(a&!b)", "!(a&b)", "((a&!b)|(!a&b))", "!((a|b)&((c|d)&(e&(f|a))))", "!((a&(b|c))|((d|e)&f))"):
            some, pairs = made(read_formula(text), "q")
            self.answer(Desk(), f"draw x q {text}", str(least_row(some, pairs)[0]))

    def test_the_cell(self):
        desk = desk_of("cell a", "rect n 0 0 1 1", "draw xor out ((a&!b)|(!a&b))")
        house = house_at(desk)
        self.assertTrue(is_house(house))
        self.assertEqual([cell[0] for cell in house], ["a", "xor"])
        self.assertEqual(house[1][3], ())
        self.assertEqual(sorted(mark[0] for mark in house[1][2]), ["a", "b", "down", "out", "up"])
        self.answer(desk, "breaks xor", "none")
        self.answer(desk, "faults xor", "loose; open; short")
        self.answer(desk, "table xor out a,b", "0 1 1 0")
        some, pairs = made(read_formula("((a&!b)|(!a&b))"), "out")
        self.assertEqual(table(listed(flat(house, "xor")), ("a", "b"), "out"), table(some, ("a", "b"), "out"))

    def test_it_may_be_added_to_and_taken_back(self):
        desk = desk_of("draw x q !(a&b)")
        text = desk.say("house")
        for row in ("rect n 1000 1000 1004 1004", "mark more n 1000 1000"):
            self.answer(desk, row, "ok")
        self.assertNotEqual(desk.say("net x n 1000 1000"), "none")
        self.assertEqual(len(desk.say("house").split("\n")), len(text.split("\n")) + 2)
        desk.say("undo")
        desk.say("undo")
        self.answer(desk, "house", text)
        self.answer(desk, "undo", "ok")
        self.answer(desk, "house", "none")

    def test_used_again(self):
        desk = desk_of("draw x q !a", "cell y", "use x 3 500 -20", "cell z", "use x 0 0 0", "use y 6 2000 2000")
        self.answer(desk, "one x y", "one")
        self.answer(desk, "breaks z", "none")
        self.answer(desk, "nets z", "8")

    def test_names_of_cells_and_of_nets_are_free_of_one_another(self):
        desk = desk_of("draw a a b", "draw q b c")
        self.answer(desk, "table a a b", "0 1")
        self.answer(desk, "table q b c", "0 1")

    def test_too_much(self):
        desk = desk_of("cell a")
        self.refused(desk, "draw x q ((a&b)&((c&d)&a))", TooMuch)
        self.refused(desk, "draw x q ((a&b)&(c&d))", TooMuch)
        cuts = least_row(*made(read_formula("((a&b)&(c&a))"), "q"))[0]
        self.answer(desk, "draw x q ((a&b)&(c&a))", str(cuts))

    def test_no_deed(self):
        desk = desk_of("cell x")
        self.refused(desk, "draw x q a", NoDeed)
        for out in ("a", "b", "up", "down"):
            self.refused(desk, f"draw y {out} (a&!b)", NoDeed)
        # Ahead of a formula's being too much.
        self.refused(desk, "draw x q ((a&b)&(c&d))", NoDeed)
        self.refused(desk, "draw y a ((a&b)&(c&d))", NoDeed)
        desk = desk_of(*[f"cell {name}" for name in "abcdefghijkl"])
        self.refused(desk, "draw x q a", NoDeed)
        self.refused(desk, "draw x q ((a&b)&(c&d))", NoDeed)

    def test_no_row(self):
        desk = desk_of("cell x")
        for row in ("draw", "draw y", "draw y q", "draw y q a b", "draw Y q a", "draw y Q a", "draw y q A", "draw y q (a&b",
                    "draw y q up", "draw y q !!!!!!a", "draw y q (a & b)", "draw  y q a", "draw y q ", "draw x q up",
                    "draw abcdefghi q a", "draw y q1 a", "draw y q ((((a&b)&(c&d))&(e&f))&g)"):
            self.refused(desk, row, NoRow)
        self.answer(desk, "draw up q " + "!" * 5 + "a", "0")
        self.assertEqual(read_formula("!!!!!a"), nots(5))


ROWS = (
    "cell b", "rect n 0 0 1 1", "mark s n 0 0", "use a 0 0 0", "undo", "house", "area a n", "rim a n", "rects a n",
    "break a width n 2", "break a apart n p 4", "breaks a", "nets a", "net a n 0 0", "list a", "faults a", "one a a",
    "table a q a,b", "draw b q a",
)


class TestNoRow(Desks):
    def test_things_that_are_no_text(self):
        desk = desk_of("cell a")
        for thing in odd_things() + [b"undo", ("undo",), ["house"]]:
            self.refused(desk, thing, NoRow)

    def test_every_row_stands_as_it_is(self):
        for row in ROWS:
            desk = desk_of("draw z q (a&b)", "cell a", "use z 0 0 0", "cell c")
            self.assertIs(type(desk.say(row)), str)

    def test_too_few_and_too_many_words(self):
        desk = desk_of("cell a", "cell c")
        for row in ROWS:
            words = row.split(" ")
            for other in (row + " ", " " + row, row + " a", row + " 1", row + "\n", "\n" + row, row + "\nundo", row + "\r"):
                self.refused(desk, other, NoRow)
            if len(words) > 1:
                self.refused(desk, " ".join(words[:-1]), NoRow)
                self.refused(desk, words[0], NoRow)
                self.refused(desk, row.replace(" ", "  ", 1), NoRow)
                self.refused(desk, row.replace(" ", "\t", 1), NoRow)
                self.refused(desk, row[::-1].replace(" ", "  ", 1)[::-1], NoRow)
            self.refused(desk, row.replace(words[0], words[0].upper()), NoRow)
            self.refused(desk, row.replace(words[0], words[0] + "x"), NoRow)

    def test_other_words(self):
        desk = desk_of("cell a")
        for row in ("", " ", "\n", "help", "width n 2", "nets 3", "name a 0", "switch n 0 0 0 1 1", "cells", "none", "redo", "a"):
            self.refused(desk, row, NoRow)

    def test_numbers_that_are_none(self):
        desk = desk_of("cell a", "cell c")
        for number in ("", "+1", "-", "-0", "00", "01", "-01", "1.0", "a", "1e3", "1_0", "--1", "1" + "0" * 40, "0x1"):
            for row in (f"rect n {number} 0 1 1", f"rect n 0 0 1 {number}", f"mark s n 0 {number}", f"mark s n {number} 0",
                        f"use a {number} 0 0", f"use a 0 {number} 0", f"use a 0 0 {number}", f"net a n {number} 0",
                        f"net a n 0 {number}", f"break a width n {number}", f"break a apart n n {number}"):
                self.refused(desk, row, NoRow)

    def test_layers_rules_and_names_that_are_none(self):
        desk = desk_of("cell a", "cell c")
        for layer in ("", "N", "x", "np", "nn", "1"):
            for row in (f"rect {layer} 0 0 1 1", f"mark s {layer} 0 0", f"area a {layer}", f"rim a {layer}",
                        f"rects a {layer}", f"net a {layer} 0 0", f"break a width {layer} 2", f"break a cross n {layer} 2"):
                self.refused(desk, row, NoRow)
        for rule in ("width n 0", "width n 51", "width n -1", "apart n 2", "width n n 2", "broad n 2", "cross n p 2 2", "",
                     " width n 2", "width n 2 "):
            self.refused(desk, f"break a {rule}", NoRow)
        for name in ("", "A", "a1", "abcdefghi", "a,b", "-", "1"):
            rows = [f"cell {name}", f"mark {name} n 0 0", f"use {name} 0 0 0", f"area {name} n", f"breaks {name}",
                    f"nets {name}", f"list {name}", f"faults {name}", f"one {name} a", f"one a {name}",
                    f"table {name} q a", f"table a {name} a", f"break {name} width n 2", f"net {name} n 0 0",
                    f"draw {name} q a", f"draw b {name} a", f"rects {name} n", f"rim {name} n"]
            for row in rows:
                self.refused(desk, row, NoRow)

    def test_ins_that_are_none(self):
        desk = desk_of("draw a q (a&b)")
        for ins in ("", ",", "a,", ",a", "a,,b", "b,a", "a,a", "a,b,b", "a,up", "down,q", "A", "a,1", "a,abcdefghi",
                    "a,b,c,d,e,f,g", "a;b", "up"):
            self.refused(desk, f"table a q {ins}", NoRow)
        self.refused(desk, "table a q a, b", NoRow)
        self.answer(desk, "table a q a,b", "0 0 0 1")
        self.refused(desk, "table a q a,b,c,d,e,f", NoGiven)


class TestNoCell(Desks):
    def test_each_row_with_a_cell(self):
        for desk in (Desk(), desk_of("cell a")):
            for row in ("use x 0 0 0", "area x n", "rim x k", "rects x n", "break x width n 2", "breaks x", "nets x",
                        "net x n 0 0", "list x", "faults x", "one x x", "table x q a"):
                self.refused(desk, row, NoCell)
        self.refused(desk, "one a x", NoCell)
        self.refused(desk, "one x a", NoCell)

    def test_behind_no_row_ahead_of_no_deed(self):
        desk = desk_of("cell a")
        self.refused(desk, "area x q", NoRow)
        self.refused(desk, "use x 0 0 00", NoRow)
        self.refused(desk, "one x A", NoRow)
        self.refused(desk, "table x q b,a", NoRow)
        self.refused(desk, "use x 8 0 0", NoCell)
        self.refused(desk, "use x 0 65537 0", NoCell)
        self.refused(Desk(), "use a 0 0 0", NoCell)
        full = desk_of("cell a", "cell b", *["use a 0 0 0"] * 20)
        self.refused(full, "use x 0 0 0", NoCell)

    def test_ahead_of_what_the_functions_refuse(self):
        desk = desk_of("cell a", *DOT)
        self.refused(desk, "one a x", NoCell)
        self.refused(desk, "one a a", NoSwitch)


class TestNoDeed(Desks):
    def test_rows_without_a_cell(self):
        for row in ("rect n 0 0 1 1", "mark s n 0 0", "undo"):
            self.refused(Desk(), row, NoDeed)

    def test_each_row(self):
        desk = desk_of("cell a", "cell b")
        far = FAR + 1
        for row in ("cell a", "cell b", "rect n 0 0 0 1", "rect n 0 0 1 0", "rect n 2 0 1 1", f"rect n 0 0 {far} 1",
                    f"rect n {-far} 0 1 1", f"rect n 0 0 1 {far}", f"rect n 0 {-far} 1 1", f"mark s n {far} 0",
                    f"mark s n 0 {-far}", "mark s k 0 0", "use b 0 0 0", "use a 8 0 0", "use a -1 0 0",
                    "use a 0 65537 0", "use a 0 0 -65537", f"rect n 0 0 1 {10 ** 39}"):
            self.refused(desk, row, NoDeed)
        self.answer(desk, "house", "cell a\ncell b")

    def test_behind_no_row(self):
        self.refused(Desk(), "rect x 0 0 1 1", NoRow)
        self.refused(Desk(), "undo now", NoRow)
        self.refused(desk_of("cell a"), "mark S k 0 0", NoRow)


def tall_list(some):
    """A cell's rows for any list, its switches side by side, each with a wire up to each of its nets.

    Each switch has three slots of six: an end, the gate, the other end; the nets' wires lie below all of them.
    """
    rows, base, many = [], 6 * some[0], len(some[2])
    rows += [("w", -1, 6 * net, 18 * many, 6 * net + 4) for net in range(some[0])]
    for at, (sort, gate, one, other, width, length) in enumerate(some[2]):
        x, y = 18 * at, base + (10 if sort == "n" else 24)
        for slot, net, low in ((0, one, y), (1, gate, base), (2, other, y)):
            left = x + 6 * slot
            rows += [("v", left, 6 * net + 1, left + 2, low + 3), ("k", left, 6 * net + 1, left + 2, 6 * net + 3)]
            rows += [("k", left, low + 1, left + 2, low + 3), ("w", left - 1, low, left + 3, low + 4)]
        rows += [(sort, x, y - (width - 4) // 2, x + 14, y - (width - 4) // 2 + width)]
        rows += [("g", x + 6, base, x + 6 + length, base + 36)]
    return rows


def rows_of_cells(rects, marks):
    """The rows of cells that have so many rects, and of one, named all, that uses them and has the marks."""
    rows, uses = [], []
    for at in range(0, len(rects), 200):
        name = "part" + "abcdefgh"[at // 200]
        rows += [f"cell {name}"] + ["rect " + " ".join(map(str, rect)) for rect in rects[at:at + 200]]
        uses.append(f"use {name} 0 0 0")
    return rows + ["cell all"] + ["mark " + " ".join(map(str, mark)) for mark in marks] + uses


class TestFunctionsRefusals(Desks):
    ASKED = ("area x n", "rim x n", "rects x n", "break x width n 2", "breaks x", "nets x", "net x n 0 0", "list x",
             "faults x", "one x x", "one a x", "table x q a")

    def test_too_much_to_lay(self):
        desk = desk_of("cell a", *["rect n 0 0 1 1"] * 200, "cell x", *["use a 0 0 0"] * 3)
        for row in self.ASKED:
            self.refused(desk, row, TooMuch)
        deep = desk_of("cell a", *[row for name, below in zip("bcdefx", "abcdef") for row in (f"cell {name}", f"use {below} 0 0 0")])
        for row in self.ASKED:
            self.refused(deep, row, TooMuch)
        self.answer(deep, "area f n", "0")

    def test_no_switch(self):
        desk = desk_of("cell a", "cell x", *DOT)
        for row in ("list x", "one x x", "one a x", "one x a", "table x q a"):
            told = self.refused(desk, row, NoSwitch)
            self.assertEqual((told.x, told.y), (4, 7))
        for row in ("nets x", "faults x", "breaks x", "net x n 0 0", "area x n"):
            desk.say(row)

    def test_one_where_both_cells_are_refused(self):
        desk = desk_of("cell dot", *DOT, "cell a", *["rect n 0 0 1 1"] * 200, "cell much", *["use a 0 0 0"] * 3,
                       "cell other", "use dot 0 100 0")
        self.refused(desk, "one dot much", NoSwitch)
        self.refused(desk, "one much dot", TooMuch)
        self.assertEqual(self.refused(desk, "one dot other", NoSwitch).x, 4)
        self.assertEqual(self.refused(desk, "one other dot", NoSwitch).x, 104)

    def beyond(self):
        """Desks with a cell named big, whose list is beyond point 20's bounds, and why."""
        dots = [f"rect w {3 * at} 0 {3 * at + 1} 1" for at in range(41)]
        yield "nets", desk_of("cell big", *dots)
        marks = [f"mark {one}{other} w 0 0" for one in "abcde" for other in "abcdefgh"]
        yield "names", desk_of("cell some", "rect w 0 0 1 1", *marks, "cell big", "use some 0 0 0", "mark x w 0 0")
        strips = [f"rect n 0 {6 * at} 60 {6 * at + 4}" for at in range(6)] + [f"rect g {8 * at + 2} -2 {8 * at + 4} 40" for at in range(7)]
        yield "switches", desk_of("cell big", *strips, "rect k -1 -9 99 99")
        tall = [f"rect n 0 {-FAR} 9 {FAR}", f"rect g 3 {-FAR} 5 {FAR}"]
        yield "widths", desk_of("cell some", *tall, "cell big", "use some 0 0 0", "use some 0 0 1")

    def test_lists_beyond_their_bounds(self):
        found = []
        for why, desk in self.beyond():
            some = listed(flat(house_at(desk), "big"))
            self.assertFalse(is_list(some), why)
            found.append((some[0] > 40, len(some[1]) > 40, len(some[2]) > 40))
            self.answer(desk, "list big", list_text(some))
            for row in ("cell dot", *DOT, "cell bare"):
                desk.say(row)
            for row in ("one big big", "one big bare", "one bare big", "table big q a", "table big none a"):
                self.refused(desk, row, TooMuch)
            # Behind the refusals of both cells.
            self.refused(desk, "one big dot", NoSwitch)
            self.refused(desk, "one dot big", NoSwitch)
        self.assertEqual(found, [(True, False, False), (False, True, False), (False, False, True), (False, False, False)])

    def test_at_the_bounds(self):
        desk = desk_of("cell a", *[f"rect w {3 * at} 0 {3 * at + 1} 1" for at in range(40)],
                       *[f"mark {one}{other} w {3 * at} 0" for at, (one, other) in
                         enumerate((one, other) for one in "abcde" for other in "abcdefgh")])
        self.answer(desk, "one a a", "one")
        self.answer(desk, "table a ab aa", "open open")

    def test_too_much_alike(self):
        rows = [f"rect w {3 * at} 0 {3 * at + 1} 1" for at in range(9)]
        desk = desk_of("cell a", *rows, "cell b", *rows[1:])
        self.refused(desk, "one a a", TooMuch)
        self.answer(desk, "one b b", "one")
        self.answer(desk, "one a b", "two")

    def test_no_given(self):
        desk = desk_of("draw a q (a&b)", "cell b", *SWITCH, "mark d g 3 0")
        for row in ("table a x a,b", "table a q a,c", "table b c a,d", "table b x a"):
            self.refused(desk, row, NoGiven)

    def test_too_long(self):
        some = too_long_list()
        some = list_of(some[0], some[1], [row[:4] + (6, 2) for row in some[2]])
        marks = [(name, "w", 0, 6 * net) for name, net in some[1]]
        desk = desk_of(*rows_of_cells(tall_list(some), marks))
        self.assertEqual(held(listed(flat(house_at(desk), "all")), some)[0], "one")
        self.refused(desk, "table all q a", TooLong)
        self.refused(desk, "table all q a,x", NoGiven)


class TestByChance(Desks):
    def test_a_desk_held_against_a_house_by_hand(self):
        pool = ["undo", "undo", "cell {}", "rect {} 0 0 {} 1", "mark {} n {} 0", "use {} {} 0 0", "draw {} q !a", "no {}"]
        for seed in range(60):
            chance = random.Random(seed)
            desk, states = Desk(), [()]
            for _ in range(60):
                row = chance.choice(pool)
                while "{}" in row:
                    row = row.replace("{}", chance.choice(("a", "b", "n", "g", "1", "2", "-1", "8", "k")), 1)
                house = self.by_hand(states[-1], row)
                if row == "undo" and len(states) > 1:
                    states.pop()
                    self.answer(desk, row, "ok")
                elif row.startswith("draw") and house is not None:
                    self.answer(desk, row, "0")
                    states.append(house_at(desk))
                    self.assertEqual(states[-1][:-1], states[-2])
                elif house is None:
                    with self.assertRaises((NoRow, NoCell, NoDeed)):
                        desk.say(row)
                else:
                    self.answer(desk, row, "ok")
                    states.append(house)
                self.answer(desk, "house", house_text(states[-1]) or "none")

    def by_hand(self, house, row):
        """The house behind a row that is put, None where it can't be."""
        word, *things = row.split(" ")
        if word in ("cell", "draw"):
            house += ((things[0], (), (), ()),)
        elif word in ("rect", "mark", "use") and house:
            things = tuple(int(thing) if thing.lstrip("-").isdigit() else thing for thing in things)
            last = list(house[-1])
            last[("rect", "mark", "use").index(word) + 1] += (things,)
            house = house[:-1] + (tuple(last),)
        else:
            return None
        return house if is_house(house) else None


class TestTwoDesks(Desks):
    def test_they_know_nothing_of_one_another(self):
        one, other = Desk(), Desk()
        one.say("cell a")
        self.answer(other, "house", "none")
        other.say("cell b")
        other.say("rect n 0 0 1 1")
        self.answer(one, "house", "cell a")
        self.refused(one, "area b n", NoCell)
        one.say("undo")
        self.answer(other, "area b n", "1")
        self.refused(one, "undo", NoDeed)
        self.answer(other, "undo", "ok")

    def test_asked_again(self):
        rows = ["draw a q (a|!b)", "cell b", "use a 1 5 5"]
        desk, other = desk_of(*rows), desk_of(*rows)
        for row in ("house", "list a", "list b", "table b q a,b", "breaks b", "rects a w", "one a b", "faults b"):
            told = desk.say(row)
            self.assertEqual(desk.say(row), told)
            self.assertEqual(other.say(row), told)


if __name__ == "__main__":
    unittest.main()
