"""Point 43, and 2 and 3 of it."""

import itertools
import random
import unittest

from maskwright.errors import NoText
from maskwright.reading import read_formula, read_house, read_list, read_rules
from maskwright.writing import formula_text, house_text, list_text, rules_text
from tests.boards import odd_things
from tests.forms import A, B, C, D, E, F, chained, nots, some_formula
from tests.texts import (
    first_bad_row, formula_by_words, formula_of, house_of, list_of_rows, lists_by_chance, rules_of, some_house,
    some_rules,
)

NO_NUMBERS = (
    "", "+1", "-", "--1", "-0", "00", "01", "-01", "1.", "1e3", "0x1", "1_0", "a", "1,", "!", "1" + "0" * 40,
    "-1" + "0" * 40, "9" * 60, "None", "True",
)
NO_NAMES = ("", "A", "a1", "abcdefghi", "a-b", "a,b", "1", "_", "none!")


def kinds_of(thing):
    """The kinds of all things within a thing."""
    if isinstance(thing, (tuple, list)):
        return (type(thing), [kinds_of(part) for part in thing])
    return type(thing)


def with_word(row, at, word):
    """A row with another word at a place."""
    words = row.split(" ")
    return " ".join(words[:at] + [word] + words[at + 1:])


def spoilt_rows(row):
    """A row spoilt in ways that make it no row of any text."""
    words = row.split(" ")
    told = ["", " ", " " + row, row + " ", row.replace(" ", "  ", 1), row + " 1", " ".join(words[:-1]), row.upper()]
    told += ["x" + row, row.replace(" ", ",", 1), row.replace(" ", "\t", 1), row + "\r"]
    told += [with_word(row, 0, word) for word in ("", "no", "undo", "Cell", words[0] + "s", words[0][:-1])]
    for at, word in enumerate(words[1:], 1):
        if word.lstrip("-").isdigit():
            told += [with_word(row, at, other) for other in NO_NUMBERS]
            told += [with_word(row, at, other) for other in ("0" + word, "+" + word, word + "0" * 45)]
        else:
            told += [with_word(row, at, other) for other in NO_NAMES]
    return [other for other in told if other != row]


class Reading(unittest.TestCase):
    def again(self, thing, write, read):
        """A thing that is written is read again, down to the kinds of what is within."""
        text = write(thing)
        told = read(text)
        self.assertEqual(told, thing)
        self.assertEqual(kinds_of(told), kinds_of(thing))
        self.assertEqual(write(told), text)

    def refused(self, read, thing, at):
        with self.assertRaises(NoText, msg=repr(thing)) as caught:
            read(thing)
        self.assertIs(type(caught.exception), NoText)
        self.assertIs(type(caught.exception.at), int)
        self.assertEqual(caught.exception.at, at, repr(thing))

    def same(self, text, read, by_words):
        """A text is read, or refused, as it is by words."""
        at = first_bad_row(text, by_words)
        if at is None and (text or by_words([]) is not None):
            self.assertEqual(read(text), by_words(text.split("\n") if text else []))
        else:
            self.refused(read, text, at or 0)
        return at

    def spoil_each_row(self, text, read, by_words):
        """Each row of a text spoilt by itself is refused there."""
        rows = text.split("\n")
        for at, row in enumerate(rows):
            for other in spoilt_rows(row):
                spoilt = "\n".join(rows[:at] + [other] + rows[at + 1:])
                if spoilt and "\r" not in other and "\t" not in other:
                    self.same(spoilt, read, by_words)
                if spoilt and by_words(rows[:at] + [other]) is None:
                    self.refused(read, spoilt, at)

    def no_texts(self, read):
        for thing in odd_things() + [b"", b"cell a", b"a", ("cell a",), ["a"], ("in", "a"), (0, (), ())]:
            if not isinstance(thing, str):
                self.refused(read, thing, 0)


class TestHouses(Reading):
    def same_house(self, text):
        return self.same(text, read_house, house_of)

    def test_read_again(self):
        self.again((), house_text, read_house)
        for seed in range(150):
            self.again(some_house(seed), house_text, read_house)

    def test_as_great_as_can_be(self):
        rects = tuple(("k", at, -at - 1, at + 1, at) for at in range(1, 201))
        marks = tuple(("zzzzzzzz", "v", at, -at) for at in range(40))
        cells = []
        for name in "abcdefghijkl":
            uses = tuple((cells[-1][0], at % 8, 2 ** 16, -2 ** 16) for at in range(20)) if cells else ()
            cells.append((name, rects, marks, uses))
        self.again(tuple(cells), house_text, read_house)

    def test_things_that_are_no_text(self):
        self.no_texts(read_house)

    def test_each_row_spoilt(self):
        text = "cell low\nrect n 0 -3 12 4\nmark s v 2 -10\ncell top\nrect k 1 1 2 2\nuse low 7 -5 6\ncell x"
        self.assertIsNone(self.same_house(text))
        self.spoil_each_row(text, read_house, house_of)

    def row_refused(self, ahead, row):
        """A row behind good ones is refused, also with good ones behind it."""
        rows = ahead.split("\n") if ahead else []
        read_house(ahead)
        for behind in ([], ["cell last"], ["rect n 0 0 1 1", "cell last"]):
            text = "\n".join(rows + [row] + behind)
            self.refused(read_house, text, len(rows))
            self.same_house(text)

    def test_bounds(self):
        far = 2 ** 20
        for row in ("rect n 0 0 0 1", "rect n 0 0 1 0", "rect n 3 0 2 1", "rect n 0 3 1 2", "rect n 0 0 -1 -1"):
            self.row_refused("cell a", row)
        for at in range(4):
            for beyond in (far + 1, -far - 1, 10 ** 39):
                numbers = [0, 0, 1, 1]
                numbers[at] = beyond
                self.row_refused("cell a", "rect n " + " ".join(map(str, numbers)))
        for row in (f"mark s n {far + 1} 0", f"mark s n 0 {-far - 1}", "mark s k 0 0", "mark s x 0 0", "rect x 0 0 1 1"):
            self.row_refused("cell a", row)
        for row in ("use a 8 0 0", "use a -1 0 0", "use a 0 65537 0", "use a 0 0 -65537"):
            self.row_refused("cell a\ncell b", row)
        self.again((("a", (("n", -far, -far, far, far),), (("s", "n", far, -far),), ()),), house_text, read_house)

    def test_words_of_names_and_layers(self):
        self.row_refused("cell a", "rect np 0 0 1 1")
        self.row_refused("cell a", "rect N 0 0 1 1")
        self.row_refused("", "cell A")
        self.row_refused("", "cell")
        self.row_refused("", "cell a b")
        self.row_refused("", "cell abcdefghi")

    def test_a_second_cell_of_one_name(self):
        self.row_refused("cell a", "cell a")
        self.row_refused("cell a\ncell b\nrect n 0 0 1 1", "cell a")

    def test_rows_without_a_cell(self):
        for row in ("rect n 0 0 1 1", "mark s n 0 0", "use a 0 0 0"):
            self.row_refused("", row)

    def test_a_use_of_a_cell_that_does_not_stand_ahead(self):
        self.row_refused("cell a", "use a 0 0 0")
        self.row_refused("cell a", "use b 0 0 0")
        self.row_refused("cell a\ncell b", "use b 0 0 0")
        self.refused(read_house, "cell a\nuse b 0 0 0\ncell b", 1)

    def test_rects_then_marks_then_uses(self):
        self.row_refused("cell a\nmark s n 0 0", "rect n 0 0 1 1")
        self.row_refused("cell a\ncell b\nuse a 0 0 0", "rect n 0 0 1 1")
        self.row_refused("cell a\ncell b\nuse a 0 0 0", "mark s n 0 0")
        self.row_refused("cell a\ncell b\nrect n 0 0 1 1\nmark s n 0 0\nuse a 0 0 0", "mark s n 0 0")
        read_house("cell a\nmark s n 0 0\ncell b\nrect n 0 0 1 1\nuse a 0 0 0\ncell c\nrect n 0 0 1 1")

    def test_one_too_many(self):
        self.row_refused("\n".join(f"cell {name}" for name in "abcdefghijkl"), "cell m")
        self.row_refused("cell a\n" + "\n".join(["rect n 0 0 1 1"] * 200), "rect n 0 0 1 1")
        self.row_refused("cell a\n" + "\n".join(["mark s n 0 0"] * 40), "mark s n 0 0")
        self.row_refused("cell a\ncell b\n" + "\n".join(["use a 0 0 0"] * 20), "use a 0 0 0")

    def test_line_ends(self):
        self.refused(read_house, "cell a\n", 1)
        self.refused(read_house, "cell a\nrect n 0 0 1 1\n", 2)
        self.refused(read_house, "cell a\n\ncell b", 1)
        self.refused(read_house, "\ncell a", 0)
        self.refused(read_house, "cell a\r\ncell b", 0)

    def test_by_chance(self):
        for seed in range(150):
            chance = random.Random(seed)
            rows = house_text(some_house(seed)).split("\n")
            for _ in range(3):
                at = chance.randrange(len(rows))
                rows[at:at + chance.randrange(2)] = [rows[chance.randrange(len(rows))]]
                if "\n".join(rows):
                    self.same_house("\n".join(rows))


class TestLists(Reading):
    def test_read_again(self):
        for some in lists_by_chance(150):
            self.again(some, list_text, read_list)

    def test_things_that_are_no_text(self):
        self.no_texts(read_list)

    def test_without_its_first_row(self):
        self.refused(read_list, "", 0)
        self.refused(read_list, "name a 0", 0)
        self.refused(read_list, "switch n 0 0 0 1 1\nnets 1", 0)
        self.refused(read_list, "\nnets 1", 0)

    def test_each_row_spoilt(self):
        text = "nets 3\nname a 0\nname a 2\nswitch n 0 1 2 3 4\nswitch p 2 2 2 1 1"
        self.spoil_each_row(text, read_list, list_of_rows)

    def row_refused(self, ahead, row):
        """A row behind good ones is refused, also with a good one behind it."""
        rows = ahead.split("\n") if ahead else []
        for behind in ([], ["switch p 0 0 0 9 9"]):
            text = "\n".join(rows + [row] + behind)
            self.refused(read_list, text, len(rows))
            self.same(text, read_list, list_of_rows)

    def test_bounds(self):
        for row in ("nets 41", "nets -1", "nets 1000", "nets"):
            self.row_refused("", row)
        for row in ("name a 3", "name a -1", "name a 40", "nets 3", "nets 4", "rect n 0 0 1 1"):
            self.row_refused("nets 3", row)
        for row in ("switch n 3 0 0 1 1", "switch n 0 3 3 1 1", "switch n 0 0 3 1 1", "switch n -1 0 0 1 1",
                    "switch n 0 2 1 1 1", "switch n 0 0 0 0 1", "switch n 0 0 0 1 0", "switch n 0 0 0 2097153 1",
                    "switch n 0 0 0 1 2097153", "switch g 0 0 0 1 1", "switch k 0 0 0 1 1", "switch np 0 0 0 1 1"):
            self.row_refused("nets 3", row)
        self.row_refused("nets 0", "name a 0")
        self.row_refused("nets 0", "switch n 0 0 0 1 1")

    def test_what_does_not_rise(self):
        self.row_refused("nets 3\nname b 0", "name a 0")
        self.row_refused("nets 3\nname b 1", "name b 0")
        self.row_refused("nets 3\nname b 1", "name b 1")
        self.row_refused("nets 3\nname ab 1", "name a 2")
        self.row_refused("nets 3\nswitch n 1 0 0 1 1", "name a 0")
        self.row_refused("nets 3\nswitch p 0 0 0 1 1", "switch n 0 0 0 1 1")
        self.row_refused("nets 3\nswitch n 0 0 1 1 1", "switch n 0 0 0 1 1")
        self.row_refused("nets 3\nswitch n 0 0 1 10 1", "switch n 0 0 1 9 1")
        self.row_refused("nets 3\nswitch n 0 0 1 10 2", "switch n 0 0 1 10 1")

    def test_numbers_rise_as_numbers(self):
        self.again((40, (("a", 9), ("a", 10)), (("n", 9, 9, 10, 9, 9), ("n", 9, 9, 10, 10, 9))), list_text, read_list)

    def test_alike_switches(self):
        self.again((1, (), (("n", 0, 0, 0, 1, 1),) * 3), list_text, read_list)

    def test_one_too_many(self):
        names = "\n".join(f"name a {net}" for net in range(40))
        self.row_refused("nets 40\n" + names, "name b 0")
        switches = "\n".join(["switch n 0 0 0 1 1"] * 40)
        self.row_refused("nets 40\n" + switches, "switch n 0 0 0 1 1")
        read_list("nets 40\n" + names + "\n" + switches)

    def test_line_ends(self):
        self.refused(read_list, "nets 1\n", 1)
        self.refused(read_list, "nets 1\n\nname a 0", 1)
        self.refused(read_list, "nets 1\nname a 0\n", 2)

    def test_by_chance(self):
        for seed, some in enumerate(lists_by_chance(150)):
            chance = random.Random(seed)
            rows = list_text(some).split("\n")
            for _ in range(3):
                at = chance.randrange(len(rows))
                rows[at:at + chance.randrange(2)] = [rows[chance.randrange(len(rows))]]
                self.same("\n".join(rows), read_list, list_of_rows)


class TestRules(Reading):
    def test_read_again(self):
        self.again((), rules_text, read_rules)
        for seed in range(100):
            self.again(some_rules(seed), rules_text, read_rules)

    def test_things_that_are_no_text(self):
        self.no_texts(read_rules)

    def test_each_row_spoilt(self):
        text = "width n 2\napart n p 4\nwithin k w 1\ncross g g 50"
        self.spoil_each_row(text, read_rules, rules_of)

    def test_bounds(self):
        for row in ("width n 0", "width n 51", "width n -1", "width n n 2", "apart n 2", "apart n n n 2", "cross x n 2",
                    "within n N 1", "apart np n 2", "width n 100", "width 2", "width 2 n", "breaks n 2"):
            self.refused(read_rules, row, 0)
            self.refused(read_rules, "width n 1\n" + row + "\nwidth n 1", 1)

    def test_one_too_many(self):
        rows = ["apart n p 4"] * 20
        self.again((("apart", "n", "p", 4),) * 20, rules_text, read_rules)
        self.refused(read_rules, "\n".join(rows + ["width n 1"]), 20)
        self.refused(read_rules, "\n".join(rows + ["width n 1"] * 5), 20)
        self.refused(read_rules, "\n".join(rows + ["no"]), 20)
        self.refused(read_rules, "\n".join(rows[:5] + ["no"] + rows), 5)

    def test_line_ends(self):
        self.refused(read_rules, "width n 1\n", 1)
        self.refused(read_rules, "width n 1\n\nwidth n 1", 1)
        self.refused(read_rules, "\nwidth n 1", 0)


def completions(text):
    """Texts that begin with a text of few signs and might be formulas."""
    opened = text.count("(")
    for name in ("", "a", "xx"):
        for many in range(2 * opened + 1):
            for closing in itertools.product((")", "&a"), repeat=many):
                yield text + name + "".join(closing)


def first_bad_sign(text):
    """The number of the first sign of a short text behind which no signs make it a formula, by trying."""
    for at in range(len(text)):
        if not any(formula_of(longer) for longer in completions(text[:at + 1])):
            return at
    return None if formula_of(text) else len(text)


class TestFormulas(Reading):
    def bad(self, text, at):
        self.refused(read_formula, text, at)

    def test_read_again(self):
        for seed in range(300):
            self.again(some_formula(seed), formula_text, read_formula)
        for name in ("upp", "u", "p", "down" * 2, "dow", "downs", "abcdefgh"):
            self.again(("or", ("in", name), A), formula_text, read_formula)

    def test_things_that_are_no_text(self):
        self.no_texts(read_formula)

    def test_short_texts_by_trying(self):
        for long in range(4):
            for signs in itertools.product("aup!()&| ", repeat=long):
                text = "".join(signs)
                at = first_bad_sign(text)
                if at is None:
                    self.assertEqual(read_formula(text), formula_of(text))
                else:
                    self.bad(text, at)

    def test_longer_texts_by_trying(self):
        for seed in range(250):
            chance = random.Random(seed)
            text = formula_by_words(some_formula(seed, deep=3, names="ab"))
            at = chance.randrange(len(text) + 1)
            spoilt = text[:at] + chance.choice(["", "", "a", "&", ")", "(", "!", "Z", "\n", "1"]) + text[at + seed % 2:]
            wrong = first_bad_sign(spoilt)
            if wrong is None:
                self.assertEqual(read_formula(spoilt), formula_of(spoilt))
            else:
                self.bad(spoilt, wrong)

    def test_each_sign_left_out(self):
        text = "(!(a&bc)|d)"
        told = [self.at_of(text[:at] + text[at + 1:]) for at in range(len(text))]
        self.assertEqual(told, [7, None, 7, 3, 6, None, None, 7, 8, 9, 10])

    def test_each_sign_put_in(self):
        text = "(!(a&bc)|d)"
        for sign in ("A", "1", " ", "\n", "-", "~", "{", "_", "\t", "*"):
            for at in range(len(text) + 1):
                self.bad(text[:at] + sign + text[at:], at)
        for sign in "ax!()&|":
            for at in range(len(text) + 1):
                spoilt = text[:at] + sign + text[at:]
                self.assertEqual(self.at_of(spoilt), first_bad_sign(spoilt), spoilt)

    def test_each_sign_exchanged(self):
        text = "(!(a&bc)|d)"
        for sign in ("A", "1", " ", "\n"):
            for at in range(len(text)):
                self.bad(text[:at] + sign + text[at + 1:], at)
        for sign in "ax!()&|":
            for at in range(len(text)):
                spoilt = text[:at] + sign + text[at + 1:]
                self.assertEqual(self.at_of(spoilt), first_bad_sign(spoilt), spoilt)

    def test_the_end_cut_off(self):
        text = "(!(a&bc)|d)"
        for long in range(len(text)):
            self.bad(text[:long], long)
        self.bad("", 0)
        self.bad("!", 1)
        self.bad("!!!!!", 5)
        self.bad("(a", 2)
        self.bad("(a&", 3)
        self.bad("(a&b", 4)

    def test_too_much_behind_it(self):
        self.bad("a)", 1)
        self.bad("(a&b))", 5)
        self.bad("(a&b)c", 5)
        self.bad("(a&b)&c", 5)
        self.bad("a&b", 1)
        self.bad("a!b", 1)
        self.bad("a\n", 1)
        self.bad("(a&b&c)", 4)
        self.bad("((a&b))", 6)
        self.bad("(a)", 2)

    def test_up_and_down(self):
        self.bad("up", 2)
        self.bad("down", 4)
        self.bad("(up&a)", 3)
        self.bad("(a|up)", 5)
        self.bad("(down|a)", 5)
        self.bad("(a|down)", 7)
        self.bad("!up", 3)
        self.bad("!down!", 5)
        self.bad("up a", 2)
        self.assertEqual(read_formula("(upa&downx)"), ("and", ("in", "upa"), ("in", "downx")))

    def test_nine_letters(self):
        self.bad("abcdefghi", 8)
        self.bad("abcdefghijkl", 8)
        self.bad("(abcdefghi&a)", 9)
        self.bad("(a|abcdefghi)", 11)
        self.bad("downdowns", 8)

    def test_seven_deep(self):
        self.assertEqual(read_formula("!!!!!a"), nots(5))
        self.bad("!!!!!!a", 5)
        self.bad("!!!!!(a&b)", 5)
        self.bad("!!!!!!", 5)
        self.bad("((((((a", 5)
        self.bad("(a&(a&(a&(a&(a&!a)))))", 15)
        self.bad("(a&(a&(a&(a&(a&(a&a))))))", 15)
        self.assertEqual(read_formula("(a&(a&(a&(a&(a&a)))))"), chained("and", "aaaaaa"))
        self.bad("(((((a&a)&a)&a)&a)&!(a&!(a&!a)))", 27)

    def test_a_seventh_name(self):
        six = "((a&b)&((cc&cd)&(cde&f)))"
        self.assertEqual(read_formula(six)[0], "and")
        self.bad(f"({six}&g)", 27)
        self.bad(f"({six}&x)", 27)
        self.assertEqual(read_formula(f"({six}&cd)")[2], ("in", "cd"))
        # These begin as a name of the six does.
        self.bad(f"({six}&c)", 28)
        self.bad(f"({six}&cda)", 29)
        self.bad(f"({six}&cdef)", 30)
        self.bad(f"({six}&ab)", 28)
        self.bad(f"({six}&c", 28)
        self.bad(f"({six}&", 27)
        self.bad(f"({six}&!ce)", 29)
        self.bad(f"({six}&u)", 27)

    def test_the_beginning_of_a_name_of_six(self):
        six = "((upper&b)&((cc&cd)&(cde&f)))"
        self.bad(f"({six}|up)", 33)
        self.bad(f"({six}|uppe", 35)
        self.bad(f"({six}|uppers)", 36)
        self.assertEqual(read_formula(f"({six}|upper)")[2], ("in", "upper"))

    def test_six_names_are_counted_unlike(self):
        formula = ("and", ("or", ("and", A, B), ("or", C, D)), ("or", ("and", E, F), ("or", A, F)))
        self.again(formula, formula_text, read_formula)
        self.bad("(((a&b)&(c&d))&((e&f)&(aa&a)))", 24)

    def at_of(self, text):
        """Where a text is refused, None where it is read."""
        try:
            read_formula(text)
        except NoText as refusal:
            return refusal.at
        return None


class TestAskedAgain(Reading):
    def test_the_same(self):
        for seed in range(30):
            text = house_text(some_house(seed))
            self.assertEqual(read_house(text), read_house(text))
            self.assertEqual(text, house_text(some_house(seed)))


if __name__ == "__main__":
    unittest.main()
