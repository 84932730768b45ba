"""Points 31 and 32, and 2 of them."""

import unittest

from maskwright.formulas import bit_of, bits_of, is_formula, unlike_at
from tests.boards import odd_things
from tests.forms import (
    A, B, C, D, E, F, G, all_names, chained, deep_of, nots, small_formulas, some_formula, spots, thing_at, truth,
    truths_in, var, with_thing,
)

NO_NAMES = [
    "", "abcdefghi", "A", "aB", "a1", "1", "a b", " a", "a ", "a_b", "-", "a-", "!", "(a&b)", "a\n", "up", "down",
]


class Formulas(unittest.TestCase):
    def good(self, *things):
        for thing in things:
            self.assertIs(is_formula(thing), True, thing)

    def bad(self, *things):
        for thing in things:
            self.assertIs(is_formula(thing), False, thing)


class TestIsFormula(Formulas):
    def test_each_kind(self):
        self.good(A, ("not", A), ("and", A, B), ("or", A, B), ("and", A, A), ("or", ("not", A), ("and", B, ("not", C))))

    def test_six_deep_and_seven(self):
        self.good(nots(5), chained("and", "abcdef"), chained("or", "abcdef", right=False))
        self.good(chained("or", "aaaaaa"), nots(4, ("and", A, B)))
        self.bad(nots(6), nots(7), chained("and", "aaaaaaa"), chained("or", "aaaaaaa", right=False))
        self.bad(nots(5, ("and", A, B)), ("and", A, nots(5)), ("or", nots(5), A))

    def test_a_whole_tree_six_deep(self):
        tree = A
        for word in ("and", "or", "and", "or", "and"):
            tree = (word, tree, tree)
        self.good(tree)
        self.bad(("and", tree, A), ("not", tree))

    def test_six_names_and_seven(self):
        six = ("and", ("or", ("and", A, B), ("or", C, D)), ("or", E, F))
        self.good(six, ("or", six, ("not", ("or", A, F))))
        self.bad(("and", six, G), ("and", G, six), with_thing(("or", six, B), (2, 1), "aa"))
        self.good(with_thing(("or", six, B), (2, 1), "f"))

    def test_names(self):
        self.good(*[var(name) for name in ("a", "z", "abcdefgh", "zzzzzzzz", "upp", "u", "dow", "downs", "in", "not")])
        for name in NO_NAMES:
            self.bad(var(name), ("not", var(name)), ("and", A, var(name)), ("or", var(name), A))

    def test_names_of_other_kinds(self):
        for thing in (None, True, False, 0, 1, ("a",), ["a"], A, [], ()):
            self.bad(("in", thing), ("and", ("in", thing), A))

    def test_too_few_and_too_many_parts(self):
        self.bad((), ("in",), ("in", "a", "b"), ("in", "a", A), ("not",), ("not", A, A), ("and",), ("and", A))
        self.bad(("and", A, A, A), ("or",), ("or", A), ("or", A, B, C), (A,), (A, B), ("a",))

    def test_other_words(self):
        self.bad(("", A), ("xor", A, B), ("In", "a"), ("NOT", A), ("&", A, B), ("nor", A, B), ("in ", "a"), ("nand", A, B))
        self.bad((None, A), (True, A), (0, A, B), (("not",), A), (["not"], A), (("and",), A, B), ([], A, B), ((), "a"))

    def test_things_that_are_none(self):
        self.bad(*odd_things())
        self.bad(["in", "a"], ["not", A], ["and", A, B], "a", "in", "(a&b)")

    def test_a_thing_exchanged_at_any_place(self):
        others = (None, True, False, 0, 1, -1, "", "Q", [], (), ["in", "a"], ("in",), ("in", 1), ("not",), [A])
        for seed in range(25):
            formula = some_formula(seed, deep=5)
            for path in spots(formula):
                for other in others:
                    self.bad(with_thing(formula, path, other))
                inner = thing_at(formula, path)
                if isinstance(inner, tuple):
                    self.bad(with_thing(formula, path, list(inner)), with_thing(formula, path, inner + (A,)))
                    self.bad(with_thing(formula, path, inner[:-1]), with_thing(formula, path, (inner,)))
                else:
                    self.bad(with_thing(formula, path, [inner]), with_thing(formula, path, (inner,)))

    def test_by_chance(self):
        told = {True: 0, False: 0}
        for seed in range(400):
            formula = some_formula(seed, deep=8, names="abcdefgh")
            answer = deep_of(formula) <= 6 and len(all_names(formula)) <= 6
            self.assertIs(is_formula(formula), answer, formula)
            told[answer] += 1
        self.assertGreater(min(told.values()), 50)


class TestBits(Formulas):
    def test_each_kind(self):
        ins = ("a", "b")
        self.assertEqual(bits_of(A, ins), (0, 1, 0, 1))
        self.assertEqual(bits_of(B, ins), (0, 0, 1, 1))
        self.assertEqual(bits_of(("not", B), ins), (1, 1, 0, 0))
        self.assertEqual(bits_of(("and", A, B), ins), (0, 0, 0, 1))
        self.assertEqual(bits_of(("or", A, B), ins), (0, 1, 1, 1))

    def test_the_name_at_each_place(self):
        ins = ("a", "c", "d", "m", "x", "zz")
        for many in range(1, 7):
            for place, name in enumerate(ins[:many]):
                for setting in range(2 ** many):
                    self.assertEqual(bit_of(var(name), ins[:many], setting), setting // 2 ** place % 2)

    def test_every_setting_by_words(self):
        for seed in range(150):
            formula = some_formula(seed)
            for ins in (tuple(all_names(formula)), tuple("abcdef")):
                told = bits_of(formula, ins)
                self.assertEqual(told, tuple(truths_in(formula, ins)), formula)
                self.assertEqual(told, tuple(bit_of(formula, ins, at) for at in range(2 ** len(ins))))

    def test_kinds(self):
        for seed in range(40):
            told = bits_of(some_formula(seed), tuple("abcdef"))
            self.assertIs(type(told), tuple)
            self.assertEqual(len(told), 64)
            self.assertTrue(all(type(bit) is int and bit in (0, 1) for bit in told))
            self.assertIs(type(bit_of(some_formula(seed), tuple("abcdef"), 5)), int)

    def test_one_in(self):
        self.assertEqual(bits_of(A, ("a",)), (0, 1))
        self.assertEqual(bits_of(nots(5), ("a",)), (1, 0))
        self.assertEqual(bits_of(nots(4), ("a",)), (0, 1))

    def test_more_names_than_the_formula_has(self):
        self.assertEqual(bits_of(C, ("a", "c")), (0, 0, 1, 1))
        self.assertEqual(bits_of(C, ("c", "d")), (0, 1, 0, 1))
        self.assertEqual(bit_of(("and", B, ("not", D)), tuple("abcdef"), 0b110110), 1)
        self.assertEqual(bit_of(("and", B, ("not", D)), tuple("abcdef"), 0b111110), 0)


class TestUnlike(Formulas):
    def test_the_first_setting(self):
        self.assertEqual(unlike_at(("and", A, B), ("or", A, B), ("a", "b")), 1)
        self.assertEqual(unlike_at(A, B, ("a", "b")), 1)
        self.assertEqual(unlike_at(("and", A, B), A, ("a", "b")), 1)
        self.assertEqual(unlike_at(("and", A, B), B, ("a", "b")), 2)
        self.assertEqual(unlike_at(A, ("not", A), ("a",)), 0)
        six = chained("and", "abcdef")
        self.assertEqual(unlike_at(six, ("and", A, ("not", A)), tuple("abcdef")), 63)

    def test_none(self):
        self.assertIsNone(unlike_at(A, A, ("a",)))
        self.assertIsNone(unlike_at(("not", ("and", A, B)), ("or", ("not", A), ("not", B)), ("a", "b", "c")))
        self.assertIsNone(unlike_at(chained("or", "abcdef"), chained("or", "fedcba", right=False), tuple("abcdef")))

    def test_by_words(self):
        formulas = small_formulas(3, "ab")[::17]
        ins = ("a", "b", "c")
        found = {}
        for one in formulas:
            for other in formulas[:20]:
                pairs = zip(truths_in(one, ins), truths_in(other, ins))
                wanted = next((at for at, (left, right) in enumerate(pairs) if left != right), None)
                self.assertEqual(unlike_at(one, other, ins), wanted)
                found[wanted] = True
        self.assertEqual(set(found), {None, 0, 1, 2, 3})

    def test_asked_again(self):
        for seed in range(20):
            one, other = some_formula(seed), some_formula(seed + 1000)
            told = unlike_at(one, other, tuple("abcdef"))
            self.assertEqual((one, other), (some_formula(seed), some_formula(seed + 1000)))
            self.assertEqual(unlike_at(one, other, tuple("abcdef")), told)
            values = dict(zip("abcdef", [told is not None and bool(told >> place & 1) for place in range(6)]))
            if told is not None:
                self.assertNotEqual(truth(one, values), truth(other, values))


if __name__ == "__main__":
    unittest.main()
