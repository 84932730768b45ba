"""Point 42, and 2 of it."""

import unittest

from maskwright.rules import house_rules
from maskwright.writing import formula_text, house_text, list_text, rules_text
from tests.forms import A, B, C, nots, some_formula
from tests.texts import formula_by_words, house_rows, list_rows, lists_by_chance, row_by_words, some_house, some_rules


class TestHouseText(unittest.TestCase):
    def test_no_cells(self):
        self.assertEqual(house_text(()), "")

    def test_bare_cells(self):
        self.assertEqual(house_text((("a", (), (), ()),)), "cell a")
        self.assertEqual(house_text((("b", (), (), ()), ("abcdefgh", (), (), ()))), "cell b\ncell abcdefgh")

    def test_all_kinds_of_rows(self):
        low = ("low", (("n", 0, -3, 12, 4), ("k", -1048576, 7, 1048576, 8)), (("s", "v", 2, -10), ("up", "n", 0, 0)), ())
        top = ("top", (), (), (("low", 7, -65536, 65536), ("low", 0, 0, -1)))
        self.assertEqual(house_text((low, top)), "\n".join([
            "cell low", "rect n 0 -3 12 4", "rect k -1048576 7 1048576 8", "mark s v 2 -10", "mark up n 0 0",
            "cell top", "use low 7 -65536 65536", "use low 0 0 -1",
        ]))

    def test_by_chance(self):
        for seed in range(100):
            self.assertEqual(house_text(some_house(seed)), "\n".join(house_rows(some_house(seed))))


class TestListText(unittest.TestCase):
    def test_sign_by_sign(self):
        self.assertEqual(list_text((0, (), ())), "nets 0")
        self.assertEqual(list_text((40, (), ())), "nets 40")
        some = (3, (("a", 2), ("b", 0), ("b", 1)), (("n", 2, 0, 1, 4, 2), ("p", 0, 1, 1, 2097152, 1)))
        self.assertEqual(
            list_text(some), "nets 3\nname a 2\nname b 0\nname b 1\nswitch n 2 0 1 4 2\nswitch p 0 1 1 2097152 1",
        )

    def test_alike_switches(self):
        some = (1, (), (("n", 0, 0, 0, 1, 1),) * 2)
        self.assertEqual(list_text(some), "nets 1\nswitch n 0 0 0 1 1\nswitch n 0 0 0 1 1")

    def test_by_chance(self):
        for some in lists_by_chance(60):
            self.assertEqual(list_text(some), "\n".join(list_rows(some)))


class TestRulesText(unittest.TestCase):
    def test_sign_by_sign(self):
        self.assertEqual(rules_text(()), "")
        self.assertEqual(rules_text((("apart", "n", "p", 4),)), "apart n p 4")
        rules = (("width", "k", 1), ("within", "k", "w", 50), ("cross", "g", "g", 10), ("apart", "v", "v", 2))
        self.assertEqual(rules_text(rules), "width k 1\nwithin k w 50\ncross g g 10\napart v v 2")

    def test_the_rules_of_the_house(self):
        rows = rules_text(house_rules()).split("\n")
        self.assertEqual(len(rows), 16)
        self.assertEqual(rows[:2] + rows[6:7] + rows[12:], [
            "width n 2", "width p 2", "apart n n 2", "apart n p 4", "within k w 1", "cross g n 2", "cross g p 2",
        ])

    def test_by_chance(self):
        for seed in range(50):
            self.assertEqual(rules_text(some_rules(seed)), "\n".join(row_by_words(rule) for rule in some_rules(seed)))


class TestFormulaText(unittest.TestCase):
    def test_sign_by_sign(self):
        self.assertEqual(formula_text(A), "a")
        self.assertEqual(formula_text(("in", "abcdefgh")), "abcdefgh")
        self.assertEqual(formula_text(("not", A)), "!a")
        self.assertEqual(formula_text(("and", A, B)), "(a&b)")
        self.assertEqual(formula_text(("or", A, B)), "(a|b)")
        self.assertEqual(formula_text(nots(5)), "!!!!!a")
        self.assertEqual(formula_text(("or", ("not", ("and", A, ("not", B))), ("or", C, A))), "(!(a&!b)|(c|a))")

    def test_by_chance(self):
        for seed in range(100):
            self.assertEqual(formula_text(some_formula(seed)), formula_by_words(some_formula(seed)))


if __name__ == "__main__":
    unittest.main()
