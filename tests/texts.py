"""Houses, rules and lists by chance for tests of texts, and readers by the points' words that know texts alone."""

import ast
import random
import re

from maskwright.formulas import is_formula
from maskwright.houses import is_house
from maskwright.lists import is_list
from tests.circuits import some_list

LAYERS = "npgwvk"
NAMES = ("a", "b", "up", "down", "cell", "zzzzzzzz", "abcdefgh", "rect", "q")
EDGE = 2 ** 20


def some_number(chance, far):
    return chance.choice((0, 1, -1, far, -far, chance.randrange(-far, far + 1), chance.randrange(-9, 10)))


def some_rect(chance):
    x0, y0 = chance.randrange(-EDGE, EDGE), chance.choice((-EDGE, 0, -3))
    return (chance.choice(LAYERS), x0, y0, chance.randrange(x0 + 1, EDGE + 1), chance.choice((1, 7, EDGE)))


def some_cell(chance, name, ahead, most=4):
    """A cell by chance that may use those ahead."""
    rects = [some_rect(chance) for _ in range(chance.randrange(most))]
    marks = [
        (chance.choice(NAMES), chance.choice("npgwv"), some_number(chance, EDGE), some_number(chance, EDGE))
        for _ in range(chance.randrange(most))
    ]
    uses = [
        (chance.choice(ahead), chance.randrange(8), some_number(chance, 2 ** 16), some_number(chance, 2 ** 16))
        for _ in range(chance.randrange(most)) if ahead
    ]
    return (name, tuple(rects), tuple(marks), tuple(uses))


def some_house(seed):
    """A house by chance, the same for each seed."""
    chance = random.Random(seed)
    names = chance.sample(NAMES, chance.randrange(5))
    return tuple(some_cell(chance, name, names[:at]) for at, name in enumerate(names))


def some_rule(chance):
    """A rule by chance."""
    word = chance.choice(("width", "apart", "within", "cross"))
    layers = [chance.choice(LAYERS) for _ in range(1 if word == "width" else 2)]
    return (word, *layers, chance.choice((1, 2, 50, chance.randrange(1, 51))))


def some_rules(seed, many=None):
    """Rules by chance, the same for each seed."""
    chance = random.Random(seed)
    return tuple(some_rule(chance) for _ in range(chance.randrange(21) if many is None else many))


def lists_by_chance(many):
    """Lists by chance, with and without names, switches and nets; some at their bounds."""
    told = [(0, (), ()), (1, (), ()), (40, (), ()), (40, (("a", 0), ("a", 39), ("b", 5)), ())]
    told.append((3, (), (("n", 0, 0, 0, 1, 1), ("n", 0, 0, 0, 1, 1), ("p", 2, 1, 2, 2 ** 21, 2 ** 21))))
    told.append((40, tuple(("a", net) for net in range(40)), (("n", 39, 38, 39, 5, 1),) * 40))
    for seed in range(many):
        told.append(some_list(seed, many=1 + seed % 9, switches=seed % 7, names="abcq"[:seed % 5]))
    return told


def row_by_words(row):
    """A row of text: its words and numbers with one blank between two."""
    return " ".join(f"{thing}" for thing in row)


def house_rows(house):
    """The rows of a house by point 42's words."""
    rows = []
    for name, rects, marks, uses in house:
        rows.append(("cell", name))
        rows += [("rect", *rect) for rect in rects] + [("mark", *mark) for mark in marks] + [("use", *use) for use in uses]
    return [row_by_words(row) for row in rows]


def list_rows(some):
    """The rows of a list by point 42's words."""
    rows = [("nets", some[0])] + [("name", *name) for name in some[1]] + [("switch", *switch) for switch in some[2]]
    return [row_by_words(row) for row in rows]


def formula_by_words(formula):
    """The text of a formula by point 42's words."""
    word, *parts = formula
    if word == "in":
        return parts[0]
    if word == "not":
        return "!" + formula_by_words(parts[0])
    return f"({formula_by_words(parts[0])}{'&' if word == 'and' else '|'}{formula_by_words(parts[1])})"


def words_and_numbers(row):
    """A row's words, those that look like numbers as numbers; short ones alone, so that odd ones stay texts."""
    return [int(word) if re.fullmatch(r"[-+]?[0-9]{1,45}", word) else word for word in row.split(" ")]


def house_of(rows):
    """The house whose rows these are, or None: guessed, and held against what its rows are."""
    cells = []
    for row in rows:
        word, *things = words_and_numbers(row)
        if word == "cell":
            cells.append([things[0] if things else None, (), (), ()])
        elif word in ("rect", "mark", "use") and cells:
            cells[-1][("rect", "mark", "use").index(word) + 1] += (tuple(things),)
        else:
            return None
    house = tuple(map(tuple, cells))
    return house if is_house(house) and house_rows(house) == rows else None


def list_of_rows(rows):
    """The list whose rows these are, or None."""
    parts = [words_and_numbers(row) for row in rows]
    if not parts or len(parts[0]) != 2:
        return None
    names = tuple(tuple(part[1:]) for part in parts if part[0] == "name")
    switches = tuple(tuple(part[1:]) for part in parts if part[0] == "switch")
    some = (parts[0][1], names, switches)
    return some if is_list(some) and list_rows(some) == rows else None


def rules_of(rows):
    """The rules whose rows these are, or None."""
    rules = tuple(tuple(words_and_numbers(row)) for row in rows)
    for rule in rules:
        word, *layers, k = rule if len(rule) > 1 else (None, None)
        if len(layers) != {"width": 1, "apart": 2, "within": 2, "cross": 2}.get(word):
            return None
        if not all(layer in tuple(LAYERS) for layer in layers) or type(k) is not int or not 1 <= k <= 50:
            return None
    return rules if len(rules) <= 20 and [row_by_words(rule) for rule in rules] == rows else None


def first_bad_row(text, read):
    """The number of the first row of a text with which the rows up to it are none of such a text, or None."""
    rows = text.split("\n") if text else []
    for at in range(len(rows)):
        if read(rows[:at + 1]) is None:
            return at
    return None


def formula_of(text):
    """The formula whose text this is, or None: by Python's own reading of it."""
    try:
        tree = ast.parse(text.replace("!", "~"), mode="eval").body
        formula = from_tree(tree)
    except (SyntaxError, ValueError):
        return None
    return formula if is_formula(formula) and formula_by_words(formula) == text else None


def from_tree(tree):
    """The formula of Python's own tree."""
    if isinstance(tree, ast.Name):
        return ("in", tree.id)
    if isinstance(tree, ast.UnaryOp) and isinstance(tree.op, ast.Invert):
        return ("not", from_tree(tree.operand))
    if isinstance(tree, ast.BinOp) and isinstance(tree.op, (ast.BitAnd, ast.BitOr)):
        word = "and" if isinstance(tree.op, ast.BitAnd) else "or"
        return (word, from_tree(tree.left), from_tree(tree.right))
    raise ValueError
