"""Two lists held against one another: one but for the nets' numbers, or two, with a paper that shows it."""

from maskwright.errors import TooMuch

AT_GATE = 0
AT_END = 1

MOST_ALIKE = 8


def numbered(keys):
    """The keys of two lists' nets as whole numbers, as the unlike ones first come: a tuple of two tuples."""
    numbers = {}
    return tuple([tuple([numbers.setdefault(key, len(numbers)) for key in own]) for own in keys])


def names_by_net(some):
    """For each net of a list the tuple of its names, sorted."""
    names = [[] for net in range(some[0])]
    # A list's names are sorted, so those of each net come sorted, too.
    for name, net in some[1]:
        names[net].append(name)
    return [tuple(own) for own in names]


def hooks_by_net(some):
    """For each net of a list what switches on it have fixed, and the numbers of their other two nets."""
    hooks = [[] for net in range(some[0])]
    for sort, gate, one, other, width, length in some[2]:
        hooks[gate].append(((sort, width, length, AT_GATE), one, other))
        hooks[one].append(((sort, width, length, AT_END), gate, other))
        hooks[other].append(((sort, width, length, AT_END), gate, one))
    return hooks


def telling(hook, own):
    """What a switch tells of a net by the marks of its other two nets."""
    fixed, one, other = hook
    left, right = own[one], own[other]
    if fixed[3] == AT_GATE:
        left, right = min(left, right), max(left, right)
    return (fixed, left, right)


def first_marks(one, other):
    """The marks of two lists behind no round."""
    return numbered([names_by_net(one), names_by_net(other)])


def next_marks(sides, marked):
    """The marks of two lists behind a round more; sides are their hooks."""
    keys = []
    for hooks, own in zip(sides, marked):
        keys.append([(own[net], tuple(sorted([telling(hook, own) for hook in hooks[net]]))) for net in range(len(own))])
    return numbered(keys)


def sides_of(one, other):
    """The hooks of two lists."""
    return (hooks_by_net(one), hooks_by_net(other))


def marks(one, other, rounds):
    """The marks of two lists behind so many rounds: a tuple of two tuples of whole numbers."""
    sides = sides_of(one, other)
    marked = first_marks(one, other)
    for done in range(rounds):
        marked = next_marks(sides, marked)
    return marked


def are_parted(marked):
    """Whether not as many nets of one list as of the other have each mark."""
    return sorted(marked[0]) != sorted(marked[1])


def marks_on(sides, first):
    """The marks round by round, from the first ones till they part the lists or stay as they are for good."""
    told = [first]
    while not are_parted(told[-1]):
        following = next_marks(sides, told[-1])
        # A round that parts no more nets numbers them as the one ahead did, and so does each one behind it.
        if following == told[-1]:
            break
        told.append(following)
    return told


def with_name(first, net, other_net):
    """The first marks when a net of the first list and one of the second are given one name more."""
    keys = []
    for own, named in zip(first, (net, other_net)):
        keys.append([(mark, number == named) for number, mark in enumerate(own)])
    return numbered(keys)


def nets_alike(own):
    """The nets of a list whose mark is another net's, too, rising."""
    many = {}
    for mark in own:
        many[mark] = many.get(mark, 0) + 1
    return [net for net, mark in enumerate(own) if many[mark] > 1]


def rounds_to_part(told, net, other_net):
    """Behind how many rounds the lists are parted with a name more for two nets, or None where that takes a try."""
    # The round that marks the two nets unlike parts the lists, for no other nets have the name. Where that is the
    # round 0 or 1, none ahead of it does; a later one may come behind one that parts them by the nets around.
    for rounds, marked in enumerate(told[:2]):
        if marked[0][net] != marked[1][other_net]:
            return rounds
    return None


def is_as_great(one, other):
    """Whether two lists have as many nets and as many switches."""
    return one[0] == other[0] and len(one[2]) == len(other[2])


def weighed(sides, told):
    """The paper ("one", renaming) of two lists by their marks round by round, or else a paper that parts them."""
    last = told[-1]
    if are_parted(last):
        return ("marks", len(told) - 1)
    alike = nets_alike(last[0])
    if not alike:
        return ("one", tuple([last[1].index(mark) for mark in last[0]]))
    papers = []
    for net in range(len(last[1])):
        paper = tried(sides, told, alike[0], net)
        if paper[0] == "one":
            return paper
        papers.append(paper)
    return ("tries", alike[0], tuple(papers))


def tried(sides, told, net, other_net):
    """What is weighed when two nets are given one name more."""
    rounds = rounds_to_part(told, net, other_net)
    if rounds is not None:
        return ("marks", rounds)
    return weighed(sides, marks_on(sides, with_name(told[0], net, other_net)))


def held(one, other):
    """The paper of two lists held against one another."""
    if not is_as_great(one, other):
        return ("two", ("marks", 0))
    sides = sides_of(one, other)
    told = marks_on(sides, first_marks(one, other))
    if not are_parted(told[-1]) and len(nets_alike(told[-1][0])) > MOST_ALIKE:
        raise TooMuch("too many nets are alike")
    paper = weighed(sides, told)
    return paper if paper[0] == "one" else ("two", paper)
