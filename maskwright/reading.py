"""Texts read as houses, lists, rules and formulas, or refused where it shows that they are none."""

from maskwright.errors import NoText
from maskwright.formulas import DEEPEST, KEPT_NAMES, MOST_NAMES, are_ins
from maskwright.houses import LAYERS, PARTS, with_cell, with_part
from maskwright.kinds import LETTERS, LONGEST_NAME, is_name
from maskwright.lists import is_list

FIGURES = "0123456789"
MOST_FIGURES = 40

MOST_RULES = 20
GREATEST_RULE = 50

# The rows of each text: a first word, and the kinds of what stands behind it.
HOUSE_ROWS = (
    ("cell", ("name",)),
    ("rect", ("layer", "number", "number", "number", "number")),
    ("mark", ("name", "layer", "number", "number")),
    ("use", ("cell", "number", "number", "number")),
)
LIST_ROWS = (
    ("nets", ("number",)),
    ("name", ("name", "number")),
    ("switch", ("layer", "number", "number", "number", "number", "number")),
)
RULE_ROWS = (
    ("width", ("layer", "number")),
    ("apart", ("layer", "layer", "number")),
    ("within", ("layer", "layer", "number")),
    ("cross", ("layer", "layer", "number")),
)


class FormulaReader:
    """Reads a formula; at is the number of the first sign that is not read yet.

    A sign is read only where signs behind it can make the text a formula; so the first one that is not is at fault.
    """

    def __init__(self, text):
        self.text = text
        self.at = 0
        self.names = []

    def sign(self):
        """The next sign; at the end the text without signs."""
        return self.text[self.at:self.at + 1]

    def step(self, signs):
        """Read one of a tuple of signs."""
        sign = self.sign()
        if sign not in signs:
            raise NoText(self.at)
        self.at += 1
        return sign

    def may_begin(self, part):
        """Whether a name here may begin with some letters."""
        if len(part) > LONGEST_NAME:
            return False
        return len(self.names) < MOST_NAMES or any([name.startswith(part) for name in self.names])

    def read_name(self):
        """Read a name, up to the sign behind its last letter."""
        name = ""
        while self.sign() != "" and self.sign() in LETTERS:
            name += self.sign()
            if not self.may_begin(name):
                raise NoText(self.at)
            self.at += 1
        if name not in self.names:
            # With more letters it might have been a name that may stand here.
            if name == "" or name in KEPT_NAMES or len(self.names) == MOST_NAMES:
                raise NoText(self.at)
            self.names.append(name)
        return name

    def read_part(self, deep):
        """Read a formula that stands so deep within the whole one."""
        # What is deepest can be an in alone.
        if deep == DEEPEST or self.sign() not in ("!", "("):
            return ("in", self.read_name())
        if self.step(("!", "(")) == "!":
            return ("not", self.read_part(deep + 1))
        one = self.read_part(deep + 1)
        word = "and" if self.step(("&", "|")) == "&" else "or"
        other = self.read_part(deep + 1)
        self.step((")",))
        return (word, one, other)


def read_formula(text):
    """The formula that a text is."""
    if not isinstance(text, str):
        raise NoText(0)
    reader = FormulaReader(text)
    formula = reader.read_part(1)
    if reader.at < len(text):
        raise NoText(reader.at)
    return formula


def name_of(word):
    """The name that a word is, or None."""
    return word if is_name(word) else None


def layer_of(word):
    """The layer that a word is, or None."""
    return word if word in LAYERS else None


def number_of(word):
    """The number that a word tells in figures, or None."""
    figures = word[1:] if word.startswith("-") else word
    if not 1 <= len(figures) <= MOST_FIGURES or not all([sign in FIGURES for sign in figures]):
        return None
    # So there is just one way to write each number.
    if figures.startswith("0") and word != "0":
        return None
    return int(word)


def ins_of(word):
    """The ins whose names a word tells, or None."""
    names = tuple(word.split(","))
    return names if are_ins(names) else None


def formula_of(word):
    """The formula that a word is, or None."""
    try:
        return read_formula(word)
    except NoText:
        return None


def rule_of(text):
    """The rule that a text tells, or None."""
    rule = row_of(text.split(" "), RULE_ROWS)
    if rule is None or not 1 <= rule[-1] <= GREATEST_RULE:
        return None
    return rule


READERS = {
    "name": name_of, "cell": name_of, "layer": layer_of, "number": number_of, "ins": ins_of, "rule": rule_of,
    "formula": formula_of,
}


def row_of(words, rows):
    """The row that words tell, a tuple of the first word and what stands behind it, or None where it is none."""
    word, *others = words
    kinds = dict(rows).get(word)
    if kinds is None or len(kinds) != len(others):
        return None
    things = []
    for kind, other in zip(kinds, others):
        reader = READERS[kind]
        things.append(reader(other))
    return None if None in things else (word,) + tuple(things)


def lines_of(text):
    """The rows of a text; there are none in the text without signs."""
    if not isinstance(text, str):
        raise NoText(0)
    return text.split("\n") if text else []


def with_row(house, row):
    """A house with a row put behind the others, or None where it can't have it."""
    if row[0] == "cell":
        return with_cell(house, (row[1], (), (), ()))
    return with_part(house, row[0], row[1:])


def is_behind(house, row):
    """Whether a row stands in its order: in a cell the rects stand ahead, then the marks, then the uses."""
    if row[0] == "cell" or not house:
        return True
    return not any(house[-1][PARTS.index(row[0]) + 2:])


def read_house(text):
    """The house that a text is."""
    house = ()
    for at, line in enumerate(lines_of(text)):
        row = row_of(line.split(" "), HOUSE_ROWS)
        if row is None or not is_behind(house, row):
            raise NoText(at)
        house = with_row(house, row)
        if house is None:
            raise NoText(at)
    return house


def with_list_row(some, row):
    """A list with a row put behind the others, or None where it can't have it; some is None ahead of all rows."""
    word, *parts = row
    longer = None
    if some is None and word == "nets":
        longer = (parts[0], (), ())
    elif some is not None and word == "name" and not some[2]:
        longer = (some[0], some[1] + (tuple(parts),), some[2])
    elif some is not None and word == "switch":
        longer = (some[0], some[1], some[2] + (tuple(parts),))
    return longer if is_list(longer) else None


def read_list(text):
    """The list that a text is."""
    some = None
    for at, line in enumerate(lines_of(text)):
        row = row_of(line.split(" "), LIST_ROWS)
        some = None if row is None else with_list_row(some, row)
        if some is None:
            raise NoText(at)
    if some is None:
        raise NoText(0)
    return some


def read_rules(text):
    """The tuple of rules that a text is."""
    rules = []
    for at, line in enumerate(lines_of(text)):
        rule = rule_of(line)
        if rule is None or len(rules) == MOST_RULES:
            raise NoText(at)
        rules.append(rule)
    return tuple(rules)
