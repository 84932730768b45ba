"""Nets: the conductors of a sheet that hang together by contacts."""

from maskwright.mixing import less
from maskwright.pieces import numbered, pieces, root_of
from maskwright.regions import parts_in, rects_of

CONDUCTING = ("n", "p", "g", "w", "v")


def conducting(sheet):
    """The regions of the conductors, one for each conducting layer."""
    n, p, g, w, v, k = sheet[0]
    return (less(n, g), less(p, g), g, w, v)


def conductors(sheet):
    """The conductors of a sheet: a list of tuples (layer, region)."""
    return [(layer, piece) for layer, some in zip(CONDUCTING, conducting(sheet)) for piece in pieces(some)]


class Plan:
    """Which conductor, and which net, each place of a sheet is of, so that many places are soon found."""

    def __init__(self, sheet):
        self.regions = dict(zip(CONDUCTING, conducting(sheet)))
        self.rows = {}
        self.many = 0
        for layer in CONDUCTING:
            self.number_rows(layer)
        self.groups = self.met(sheet[0][-1])
        self.nets = self.joined_groups()
        self.net_of = {piece: number for number, net in enumerate(self.nets) for piece in net}

    def number_rows(self, layer):
        """Keep the numbers of the conductors of a layer's stretches, counted on from those ahead."""
        rows = [[self.many + number for number in row] for row in numbered(self.regions[layer])]
        self.rows[layer] = rows
        self.many = max([number + 1 for row in rows for number in row], default=self.many)

    def within(self, layer, rect):
        """The numbers of the conductors of a layer that have places in a rectangle."""
        rows = self.rows[layer]
        return [rows[band][stretch] for band, stretch in parts_in(self.regions[layer], rect)]

    def met(self, contacts):
        """For each piece of the contacts a list of the numbers of the conductors of which it has places."""
        groups = {}
        numbers = [number for row in numbered(contacts) for number in row]
        for number, rect in zip(numbers, rects_of(contacts)):
            group = groups.setdefault(number, {})
            for layer in CONDUCTING:
                for conductor in self.within(layer, rect):
                    group[conductor] = True
        return [list(groups[number]) for number in groups]

    def joined_groups(self):
        """The nets: a list of tuples of rising numbers of conductors, by their least ones."""
        roots = list(range(self.many))
        for group in self.groups:
            for number in group[1:]:
                roots[root_of(roots, number)] = root_of(roots, group[0])
        found = {}
        for number in range(self.many):
            found.setdefault(root_of(roots, number), []).append(number)
        return [tuple(found[root]) for root in found]

    def net_on(self, layer, x, y):
        """The number of the net that has a place on a layer, or None."""
        if layer not in CONDUCTING:
            return None
        found = self.within(layer, (x, y, x + 1, y + 1))
        return self.net_of[found[0]] if found else None


def nets(sheet):
    """The nets of a sheet: a list of tuples of rising numbers of conductors."""
    return Plan(sheet).nets


def net_at(sheet, layer, x, y):
    """The number of the net that has a place on a layer, or None."""
    return Plan(sheet).net_on(layer, x, y)


def steps_from(groups, start):
    """For each number to which groups lead from a start, the one ahead of it on a shortest way."""
    groups_of = {}
    for at, group in enumerate(groups):
        for number in group:
            groups_of.setdefault(number, []).append(at)
    ahead = {start: None}
    walked = {}
    todo = [start]
    done = 0
    while done < len(todo):
        here = todo[done]
        done += 1
        for at in groups_of.get(here, []):
            if at in walked:
                continue
            walked[at] = True
            for number in groups[at]:
                if number not in ahead:
                    ahead[number] = here
                    todo.append(number)
    return ahead


def way(sheet, one, other):
    """A shortest way from a conductor to another one, by conductors that meet: a tuple of numbers, or None."""
    ahead = steps_from(Plan(sheet).groups, one)
    if other not in ahead:
        return None
    walk = []
    here = other
    while here is not None:
        walk.append(here)
        here = ahead[here]
    return tuple(walk[::-1])
