"""Points 35 and 36, and 2 and 3 of them."""

import itertools
import unittest

from maskwright.alike import held
from maskwright.errors import TooMuch
from maskwright.formulas import bits_of, is_formula
from maskwright.lists import is_list
from maskwright.making import made, plain
from maskwright.papers import looked
from maskwright.tables import played, table
from maskwright.ways import ways
from tests.forms import (
    A, B, C, D, E, F, all_names, chained, deep_of, nots, small_formulas, some_formula, truths_in, var,
)

OTHER = {"and": "or", "or": "and"}


def rewritten(formula):
    """A formula with its outermost nots done by one step of point 35's words."""
    word, *parts = formula
    if word == "not" and parts[0][0] != "in":
        inner, *within = parts[0]
        return within[0] if inner == "not" else (OTHER[inner], *[("not", part) for part in within])
    return formula if word == "in" else (word, *[rewritten(part) for part in parts])


def plain_by_words(formula):
    """The plain form of a formula, step by step."""
    while rewritten(formula) != formula:
        formula = rewritten(formula)
    return formula


def places_by_words(f, n_ends, p_ends, nets):
    """The places of a plain formula: (gate, the n switch's ends, the p switch's ends), by point 36's words.

    Nets are told by words of their own; nets is a list of those that are put in between.
    """
    if f[0] == "in":
        return [(f[1], n_ends, p_ends)]
    if f[0] == "not":
        return [("not " + f[1][1], n_ends, p_ends)]
    nets.append(f"between {len(nets)}")
    middle = nets[-1]
    if f[0] == "and":
        return (places_by_words(f[1], (n_ends[0], middle), p_ends, nets)
                + places_by_words(f[2], (middle, n_ends[1]), p_ends, nets))
    return (places_by_words(f[1], n_ends, (p_ends[0], middle), nets)
            + places_by_words(f[2], n_ends, (middle, p_ends[1]), nets))


def wanted_by_words(formula, out):
    """The names, the other nets and the couples (gate, n ends, p ends) of the list made for a formula."""
    between = []
    places = places_by_words(plain_by_words(("not", formula)), (out, "down"), ("up", out), between)
    turned = sorted({gate for gate, n_ends, p_ends in places if gate.startswith("not ")})
    places += [(net[4:], (net, "down"), ("up", net)) for net in turned]
    return ["up", "down", out] + all_names(formula), turned + between, places


def couples_as_numbers(places, numbers):
    """Couples of switches by the nets' numbers, sorted."""
    return sorted(
        tuple((sort, numbers[gate], *sorted(numbers[end] for end in ends), 6, 2) for sort, ends in (("n", low), ("p", high)))
        for gate, low, high in places
    )


class Making(unittest.TestCase):
    def checked(self, formula, out="q"):
        """What is made for a formula, when all that point 36 says of its form was looked at."""
        told = made(formula, out)
        self.assertTrue(type(told) is tuple and len(told) == 2)
        some, pairs = told
        self.assertIs(is_list(some), True)
        names, others, places = wanted_by_words(formula, out)
        self.assertEqual([name for name, net in some[1]], sorted(names))
        self.assertEqual(len({net for name, net in some[1]}), len(names))
        self.assertEqual(some[0], len(names) + len(others))
        self.assertEqual(len(pairs), len(places))
        self.assertEqual(sorted(number for pair in pairs for number in pair), list(range(len(some[2]))))
        self.assertTrue(type(pairs) is tuple and all(type(pair) is tuple and len(pair) == 2 for pair in pairs))
        couples = sorted((some[2][i], some[2][j]) for i, j in pairs)
        self.assertTrue(all((low[0], high[0]) == ("n", "p") and low[1] == high[1] for low, high in couples))
        numbers = dict(some[1])
        free = [net for net in range(some[0]) if net not in numbers.values()]
        self.assertTrue(any(
            couples_as_numbers(places, numbers | dict(zip(others, order))) == couples
            for order in itertools.permutations(free)
        ), (formula, told))
        return told

    def refused(self, formula, out="q"):
        with self.assertRaises(TooMuch) as caught:
            made(formula, out)
        self.assertIs(type(caught.exception), TooMuch)


class TestPlain(Making):
    def test_ins_and_nots(self):
        for many in range(6):
            self.assertEqual(plain(nots(many)), ("not", A) if many % 2 else A)

    def test_and_and_or_within_nots(self):
        self.assertEqual(plain(("not", ("and", A, B))), ("or", ("not", A), ("not", B)))
        self.assertEqual(plain(("not", ("or", A, B))), ("and", ("not", A), ("not", B)))
        self.assertEqual(plain(nots(2, ("and", A, B))), ("and", A, B))
        self.assertEqual(plain(nots(3, ("or", A, ("not", B)))), ("and", ("not", A), B))
        self.assertEqual(
            plain(("or", ("not", ("and", A, ("not", ("or", B, C)))), ("not", ("not", D)))),
            ("or", ("or", ("not", A), ("or", B, C)), D),
        )
        self.assertEqual(
            plain(("and", E, ("not", ("or", ("and", A, B), ("not", ("and", C, D)))))),
            ("and", E, ("and", ("or", ("not", A), ("not", B)), ("and", C, D))),
        )

    def test_what_is_plain_stays(self):
        for formula in (A, ("not", A), ("and", ("not", A), B), ("or", ("and", A, A), ("not", ("in", "zz")))):
            self.assertEqual(plain(formula), formula)

    def test_all_small_ones(self):
        for formula in small_formulas(3, "ab")[::3]:
            self.assertEqual(plain(formula), plain_by_words(formula))

    def test_by_chance(self):
        ins = tuple("abcdef")
        for seed in range(200):
            formula = some_formula(seed)
            told = plain(formula)
            self.assertEqual(told, plain_by_words(formula))
            self.assertEqual(plain(told), told)
            self.assertTrue(is_formula(told))
            self.assertLessEqual(deep_of(told), 6)
            self.assertEqual(list(bits_of(told, ins)), truths_in(formula, ins))
            self.assertEqual(formula, some_formula(seed))


class TestMade(Making):
    def test_an_in(self):
        some, pairs = self.checked(A)
        self.assertEqual((some[0], len(some[2])), (5, 4))
        # Its not has a not, so the name is turned over twice.
        names = dict(some[1])
        turned = ({0, 1, 2, 3, 4} - set(names.values())).pop()
        down, up, a, q = (names[name] for name in ("down", "up", "a", "q"))
        rows = [("n", a, down, turned), ("p", a, up, turned), ("n", turned, down, q), ("p", turned, up, q)]
        wanted = sorted((sort, gate, *sorted(ends), 6, 2) for sort, gate, *ends in rows)
        self.assertEqual(some[2], tuple(wanted))

    def test_a_not(self):
        some, pairs = self.checked(("not", A))
        self.assertEqual((some[0], len(some[2]), pairs), (4, 2, ((0, 1),)))

    def test_one_behind_another_and_side_by_side(self):
        some, pairs = self.checked(("not", ("and", A, B)))
        names = dict(some[1])
        inner = ({0, 1, 2, 3, 4, 5} - set(names.values())).pop()
        ends = {(row[0], row[1]): set(row[2:4]) for row in some[2]}
        self.assertEqual(ends["n", names["a"]], {names["q"], inner})
        self.assertEqual(ends["n", names["b"]], {inner, names["down"]})
        self.assertEqual(ends["p", names["a"]], ends["p", names["b"]])
        self.assertEqual(ends["p", names["a"]], {names["up"], names["q"]})

    def test_the_other_way_about(self):
        some, pairs = self.checked(("not", ("or", A, B)))
        names = dict(some[1])
        inner = ({0, 1, 2, 3, 4, 5} - set(names.values())).pop()
        ends = {(row[0], row[1]): set(row[2:4]) for row in some[2]}
        self.assertEqual(ends["p", names["a"]], {names["up"], inner})
        self.assertEqual(ends["p", names["b"]], {inner, names["q"]})
        self.assertEqual(ends["n", names["a"]], ends["n", names["b"]])
        self.assertEqual(ends["n", names["a"]], {names["down"], names["q"]})

    def test_alike_switches(self):
        some, pairs = self.checked(("not", ("or", A, A)))
        self.assertEqual(some[2][0], some[2][1])
        some, pairs = self.checked(("not", ("and", A, ("and", A, A))))
        self.assertEqual(some[2][-1], some[2][-3])
        self.checked(chained("or", "aaa"))

    def test_names_of_outs(self):
        for out in ("z", "b", "upp", "abcdefgh"):
            self.checked(("and", A, ("not", C)), out)
        self.checked(("or", var("zz"), var("m")), "a")

    def test_small_ones(self):
        for formula in small_formulas(3, "ab")[::5]:
            if len(wanted_by_words(formula, "q")[2]) <= 7:
                self.checked(formula)

    def test_by_chance(self):
        done = refused = 0
        for seed in range(300):
            formula = some_formula(seed, deep=4)
            if len(wanted_by_words(formula, "q")[2]) <= 7:
                self.checked(formula)
                done += 1
            else:
                self.refused(formula)
                refused += 1
        self.assertGreater(min(done, refused), 30)


class TestTooMuch(Making):
    def test_seven_and_eight_without_turned_nets(self):
        seven = ("not", ("and", ("and", ("or", A, B), ("or", C, D)), ("and", E, ("or", F, A))))
        self.assertEqual(len(self.checked(seven)[1]), 7)
        self.refused(("not", ("and", ("and", ("or", A, B), ("or", C, D)), ("and", ("or", E, B), ("or", F, A)))))
        self.refused(("not", chained("and", "ab" * 4)[0:1] + (chained("and", "abcd"), chained("or", "abcd"))))

    def test_turned_nets_are_counted(self):
        # Three ins with nots, and a turned net each: six pairs; one place more: seven; one more: eight.
        three = chained("and", "abc")
        self.assertEqual(len(self.checked(three)[1]), 6)
        self.assertEqual(len(self.checked(("and", three, A))[1]), 7)
        self.assertEqual(len(self.checked(("and", three, ("not", D)))[1]), 7)
        self.refused(("and", three, D))
        self.refused(("and", three, ("not", ("and", D, E))))
        self.refused(("and", ("and", three, A), A))

    def test_a_turned_net_once_for_each_name(self):
        self.assertEqual(len(self.checked(("and", ("and", A, A), ("and", A, ("and", A, A))))[1]), 6)
        self.assertEqual(len(self.checked(("or", ("and", A, ("not", B)), ("and", ("not", A), B)))[1]), 6)

    def test_deep_ones(self):
        tree = A
        for word in ("and", "or", "and", "or", "and"):
            tree = (word, tree, tree)
        self.refused(tree)
        self.assertEqual(len(self.checked(nots(5))[1]), 1)


class TestWhatItDoes(Making):
    def test_the_table_is_the_formulas(self):
        done = 0
        for seed in range(250):
            formula = some_formula(seed, deep=4, names="abcd")
            ins = tuple(all_names(formula))
            try:
                some, pairs = made(formula, "q")
            except TooMuch:
                continue
            self.assertEqual(list(table(some, ins, "q")), truths_in(formula, ins))
            done += 1
        self.assertGreater(done, 60)

    def test_six_names(self):
        formula = ("not", ("or", ("and", A, B), ("and", C, ("or", D, ("and", E, F)))))
        some, pairs = self.checked(formula)
        self.assertEqual(list(table(some, tuple("abcdef"), "q")), truths_in(formula, tuple("abcdef")))

    def test_no_net_clashes_and_out_is_never_open(self):
        for formula in (A, chained("and", "abc"), ("or", ("and", A, ("not", B)), ("and", ("not", A), B)),
                        ("not", ("and", ("or", A, B), ("or", C, ("and", A, D))))):
            some, pairs = made(formula, "q")
            ins = all_names(formula)
            out = dict(some[1])["q"]
            givens = tuple(
                tuple(zip(ins, row)) for row in itertools.product((0, 1), repeat=len(ins))
            )[:20]
            for told, given in zip(played(some, givens), givens):
                self.assertEqual(told[0], "rest")
                self.assertNotIn(2, told[1])
                self.assertEqual(len(ways(some, given, told[1], out)), 1)

    def test_nothing_clashes_on_the_way_to_a_rest_either(self):
        for seed in range(60):
            formula = some_formula(seed, deep=3)
            try:
                some, pairs = made(formula, "q")
            except TooMuch:
                continue
            ins = all_names(formula)
            for bits in itertools.product((0, 1), repeat=len(ins)):
                told = played(some, (tuple(zip(ins, bits)),) * 2)
                self.assertNotIn(2, told[0][1])
                self.assertEqual(told[1], ("rest", told[0][1], 0))


class TestTold(Making):
    def test_asked_again(self):
        formula = ("or", ("and", A, ("not", B)), C)
        told = made(formula, "q")
        self.assertEqual(formula, ("or", ("and", A, ("not", B)), C))
        self.assertEqual(made(formula, "q"), told)
        self.assertEqual(made(("not", A), "x"), made(("not", A), "x"))

    def test_one_list_by_two_ways_of_writing(self):
        one = made(("not", ("and", A, B)), "q")[0]
        other = made(("or", ("not", A), ("not", B)), "q")[0]
        paper = held(one, other)
        self.assertEqual(paper[0], "one")
        self.assertTrue(looked(one, other, paper))


if __name__ == "__main__":
    unittest.main()
