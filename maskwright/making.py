"""A list made for a formula: n switches from its out to down, p switches from up to its out."""

from maskwright.errors import TooMuch
from maskwright.formulas import ins_within, names_of

MOST_PAIRS = 7

WIDTH = 6
LENGTH = 2

OTHER_WORD = {"and": "or", "or": "and"}


def plain_not(formula):
    """The plain form of a formula's not."""
    word = formula[0]
    if word == "in":
        return ("not", formula)
    if word == "not":
        return plain(formula[1])
    return (OTHER_WORD[word], plain_not(formula[1]), plain_not(formula[2]))


def plain(formula):
    """The plain form of a formula: not stands ahead of an in alone."""
    word = formula[0]
    if word == "in":
        return formula
    if word == "not":
        return plain_not(formula[1])
    return (word, plain(formula[1]), plain(formula[2]))


def turned_names(formula):
    """The names that have a not in a plain formula, each as often as it comes."""
    if formula[0] == "in":
        return []
    if formula[0] == "not":
        return [formula[1][1]]
    return turned_names(formula[1]) + turned_names(formula[2])


def switch_between(sort, gate, ends):
    """A switch of a sort with a gate between two nets."""
    return (sort, gate, min(ends), max(ends), WIDTH, LENGTH)


class Bench:
    """Nets that are numbered as they come, and couples of an n and a p switch with one gate."""

    def __init__(self):
        self.many = 0
        self.couples = []

    def new_net(self):
        """The number of a net more."""
        self.many += 1
        return self.many - 1

    def couple(self, gate, n_ends, p_ends):
        """Put an n and a p switch with one gate."""
        self.couples.append((switch_between("n", gate, n_ends), switch_between("p", gate, p_ends)))

    def build(self, formula, gates, n_ends, p_ends):
        """Put the switches of a plain formula between two nets each; gates has the nets of its ins and their nots."""
        word = formula[0]
        if word == "in" or word == "not":
            self.couple(gates[formula], n_ends, p_ends)
            return
        inner = self.new_net()
        n_halves = (n_ends, n_ends)
        p_halves = (p_ends, p_ends)
        if word == "and":
            n_halves = ((n_ends[0], inner), (inner, n_ends[1]))
        else:
            p_halves = ((p_ends[0], inner), (inner, p_ends[1]))
        for part, n_half, p_half in zip(formula[1:], n_halves, p_halves):
            self.build(part, gates, n_half, p_half)


def numbered_couples(couples):
    """The switches of couples, sorted, and for each couple the numbers of its two among them: two tuples."""
    switches = [switch for couple in couples for switch in couple]
    # By their places, too, so that alike switches have unlike numbers.
    order = sorted(range(len(switches)), key=lambda place: (switches[place], place))
    numbers = {place: number for number, place in enumerate(order)}
    pairs = [(numbers[2 * at], numbers[2 * at + 1]) for at in range(len(couples))]
    return (tuple([switches[place] for place in order]), tuple(pairs))


def made(formula, out):
    """The list made for a formula and the name of its out, and the pairs of its switches."""
    wanted = plain_not(formula)
    turned = sorted(set(turned_names(wanted)))
    if len(ins_within(wanted)) + len(turned) > MOST_PAIRS:
        raise TooMuch("more than seven pairs of switches are needed")
    bench = Bench()
    nets = {name: bench.new_net() for name in ["down", "up", out] + names_of(formula)}
    down, up = nets["down"], nets["up"]
    gates = {("in", name): nets[name] for name in names_of(formula)}
    for name in turned:
        gates[("not", ("in", name))] = bench.new_net()
    bench.build(wanted, gates, (nets[out], down), (up, nets[out]))
    for name in turned:
        net = gates[("not", ("in", name))]
        bench.couple(nets[name], (net, down), (up, net))
    switches, pairs = numbered_couples(bench.couples)
    return ((bench.many, tuple(sorted(nets.items())), switches), pairs)
