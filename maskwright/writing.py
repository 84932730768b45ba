"""Houses, lists, rules and formulas written as texts."""

SIGNS = {"and": "&", "or": "|"}


def row_text(word, things):
    """A row of a word and what stands behind it, names and numbers."""
    return " ".join([word] + [str(thing) for thing in things])


def cell_rows(cell):
    """The rows of a cell."""
    name, rects, marks, uses = cell
    rows = [row_text("cell", [name])]
    for word, parts in (("rect", rects), ("mark", marks), ("use", uses)):
        rows += [row_text(word, part) for part in parts]
    return rows


def house_text(house):
    """The text of a house."""
    return "\n".join([row for cell in house for row in cell_rows(cell)])


def list_text(some):
    """The text of a list."""
    many, names, switches = some
    rows = [row_text("nets", [many])]
    rows += [row_text("name", name) for name in names]
    rows += [row_text("switch", switch) for switch in switches]
    return "\n".join(rows)


def rules_text(rules):
    """The text of rules."""
    return "\n".join([row_text(rule[0], rule[1:]) for rule in rules])


def formula_text(formula):
    """The text of a formula."""
    word = formula[0]
    if word == "in":
        return formula[1]
    if word == "not":
        return "!" + formula_text(formula[1])
    return "(" + formula_text(formula[1]) + SIGNS[word] + formula_text(formula[2]) + ")"
