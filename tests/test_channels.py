"""Points 39, 40 and 41, and 2 and 3 of them."""

import itertools
import random
import unittest

from maskwright.channels import is_wired, wired
from maskwright.errors import Ringed
from tests.boards import odd_things
from tests.forms import spots, thing_at, with_thing


def spans_by_words(above, below):
    """The wires that need tracks with the set of the columns that each spans."""
    told = {}
    for wire in range(1, 9):
        at = [column for column, pair in enumerate(zip(above, below)) if wire in pair]
        if at and min(at) < max(at):
            told[wire] = set(range(min(at), max(at) + 1))
    return told


def orders_by_words(above, below):
    """The pairs of wires of which the first must lie above the second."""
    spans = spans_by_words(above, below)
    return {(one, other) for one, other in zip(above, below) if one != other and one in spans and other in spans}


def may_lie(above, below, track_of):
    """Whether wires lie on tracks as point 39 tells it."""
    spans = spans_by_words(above, below)
    if any(track_of[one] >= track_of[other] for one, other in orders_by_words(above, below)):
        return False
    return not any(
        track_of[one] == track_of[other] and spans[one] & spans[other] for one, other in itertools.combinations(spans, 2)
    )


def all_ways(above, below, many):
    """All ways to lay the wires on so many tracks, each of them used."""
    wires = sorted(spans_by_words(above, below))
    for tracks in itertools.product(range(many), repeat=len(wires)):
        if set(tracks) == set(range(many)) and may_lie(above, below, dict(zip(wires, tracks))):
            yield tuple(zip(wires, tracks))


def fewest_by_trying(above, below):
    """As few tracks as can be, None where there are no tracks at all for the wires."""
    for many in range(len(spans_by_words(above, below)) + 1):
        if next(all_ways(above, below, many), None) is not None:
            return many
    return None


def thick_by_words(above, below, many):
    """The first column that so many wires span, or None."""
    spans = spans_by_words(above, below)
    counts = [sum(column in span for span in spans.values()) for column in range(len(above))]
    return counts.index(many) if many in counts else None


def chains_by_words(above, below, many):
    """All rows of so many wires each of which must lie above the next one."""
    orders = orders_by_words(above, below)
    return [
        row for row in itertools.permutations(sorted(spans_by_words(above, below)), many)
        if many and all(pair in orders for pair in zip(row, row[1:]))
    ]


def reasons_by_words(above, below, many):
    """All reasons that are so for that many tracks."""
    column = thick_by_words(above, below, many)
    if column is not None:
        return [("thick", column)]
    return [("chain", row) for row in chains_by_words(above, below, many)] or [("all",)]


def some_channel(seed, most=5):
    """A channel by chance, of at most so many wires."""
    chance = random.Random(seed)
    wide = chance.randrange(1, 13)
    wires = chance.sample(range(1, 9), chance.randrange(1, most + 1))
    choices = [0] * chance.choice((1, 2, 5)) + wires
    return tuple(tuple(chance.choice(choices) for _ in range(wide)) for _ in range(2))


# Neither four wires span a column nor are four in a chain; but four tracks are needed.
ALL = ((6, 8, 8, 1, 8, 0, 0), (3, 3, 3, 6, 0, 1, 0))


class Channels(unittest.TestCase):
    def checked(self, above, below):
        """What is told of a channel that can be wired, when all of it but its fewness was looked at."""
        told = wired(above, below)
        self.assertTrue(type(told) is tuple and len(told) == 3)
        many, tracks, reason = told
        spans = spans_by_words(above, below)
        self.assertTrue(type(many) is int and type(tracks) is tuple and type(reason) is tuple)
        self.assertEqual([wire for wire, track in tracks], sorted(spans))
        self.assertTrue(all(type(entry) is tuple and type(entry[0]) is type(entry[1]) is int for entry in tracks))
        self.assertEqual({track for wire, track in tracks}, set(range(many)))
        self.assertTrue(may_lie(above, below, dict(tracks)))
        self.assertIn(reason, reasons_by_words(above, below, many))
        self.assertIs(is_wired(above, below, told), True)
        return told

    def ringed(self, above, below):
        """The ring by which a channel is refused, when it was looked at."""
        with self.assertRaises(Ringed) as caught:
            wired(above, below)
        self.assertIs(type(caught.exception), Ringed)
        ring = caught.exception.ring
        self.assertIs(type(ring), tuple)
        self.assertEqual(len(set(ring)), len(ring))
        self.assertGreaterEqual(len(ring), 2)
        for pair in zip(ring, ring[1:] + ring[:1]):
            self.assertIn(pair, orders_by_words(above, below))
        return ring


class TestWired(Channels):
    def test_no_wire_needs_a_track(self):
        for above, below in (((0,), (0,)), ((1,), (2,)), ((0, 0, 0), (0, 0, 0)), ((1, 2, 0), (1, 3, 4)), ((8,), (8,))):
            self.assertEqual(self.checked(above, below), (0, (), ("thick", 0)))

    def test_one_wire(self):
        self.assertEqual(self.checked((1, 0, 1), (0, 0, 0)), (1, ((1, 0),), ("thick", 0)))
        self.assertEqual(self.checked((0, 0, 0, 5), (0, 5, 0, 0)), (1, ((5, 0),), ("thick", 1)))
        self.assertEqual(self.checked((0, 2, 2), (0, 2, 2)), (1, ((2, 0),), ("thick", 1)))

    def test_wires_that_span_one_column_alone(self):
        # They have no track, and nothing has to lie above or below them.
        self.assertEqual(self.checked((1, 2, 1), (3, 0, 4)), (1, ((1, 0),), ("thick", 0)))
        self.assertEqual(self.checked((1, 5, 1), (2, 5, 2))[1], ((1, 0), (2, 1)))
        self.assertEqual(self.checked((7, 1, 0), (1, 0, 1))[:2], (1, ((1, 0),)))
        self.assertEqual(self.checked((7, 1, 0), (1, 8, 1))[:2], (1, ((1, 0),)))
        self.assertEqual(self.checked((1, 1), (7, 8))[:2], (1, ((1, 0),)))

    def test_one_behind_another_on_one_track(self):
        self.assertEqual(self.checked((1, 1, 2, 2), (0, 0, 0, 0)), (1, ((1, 0), (2, 0)), ("thick", 0)))
        # Two that end and begin at one column span it both.
        self.assertEqual(self.checked((1, 1, 2), (0, 2, 0)), (2, ((1, 0), (2, 1)), ("thick", 1)))
        self.assertEqual(self.checked((1, 2, 2), (0, 1, 0)), (2, ((1, 1), (2, 0)), ("thick", 1)))

    def test_the_one_from_above_has_the_lesser_track(self):
        self.assertEqual(self.checked((1, 0, 1), (2, 2, 0))[1], ((1, 0), (2, 1)))
        self.assertEqual(self.checked((2, 2, 0), (1, 0, 1))[1], ((1, 1), (2, 0)))
        self.assertEqual(self.checked((2, 2, 0, 0), (0, 1, 0, 1))[1], ((1, 1), (2, 0)))

    def test_a_chain(self):
        # No column has three wires, but 1 must lie above 2, 2 above 3.
        above, below = (1, 1, 2, 2, 3), (0, 2, 0, 3, 0)
        many, tracks, reason = self.checked(above, below)
        self.assertEqual((many, tracks, reason), (3, ((1, 0), (2, 1), (3, 2)), ("chain", (1, 2, 3))))

    def test_the_first_thick_column(self):
        above, below = (0, 1, 2, 1, 2, 3, 4, 3, 4), (0,) * 9
        self.assertEqual(self.checked(above, below)[::2], (2, ("thick", 2)))

    def test_neither_thick_nor_chain(self):
        self.assertEqual(fewest_by_trying(*ALL), 4)
        self.assertEqual(self.checked(*ALL)[::2], (4, ("all",)))
        found = 0
        for seed in range(1500):
            channel = some_channel(seed)
            try:
                many, tracks, reason = wired(*channel)
            except Ringed:
                continue
            if reason == ("all",):
                self.assertEqual(fewest_by_trying(*channel), many)
                self.assertEqual(reasons_by_words(*channel, many), [("all",)])
                found += 1
        self.assertGreater(found, 2)

    def test_as_few_as_can_be(self):
        seen = {}
        for seed in range(500):
            above, below = some_channel(seed, 4)
            fewest = fewest_by_trying(above, below)
            if fewest is None:
                self.ringed(above, below)
            else:
                told = self.checked(above, below)
                self.assertEqual(told[0], fewest)
                seen[told[2][0], fewest] = True
        self.assertLessEqual({("thick", 0), ("thick", 1), ("thick", 2), ("thick", 3), ("chain", 3)}, set(seen))

    def test_all_channels_of_two_wires_and_three_columns(self):
        for above in itertools.product(range(3), repeat=3):
            for below in itertools.product(range(3), repeat=3):
                fewest = fewest_by_trying(above, below)
                if fewest is None:
                    self.ringed(above, below)
                else:
                    self.assertEqual(self.checked(above, below)[0], fewest)

    def test_eight_wires(self):
        side_by_side = (1, 1, 2, 2, 3, 3, 4, 4, 5, 5, 6, 6)
        self.assertEqual(self.checked(side_by_side, (0,) * 12)[0], 1)
        above, below = (1, 2, 3, 4, 5, 6, 7, 8, 0, 0, 0, 0), (0, 0, 0, 0, 1, 2, 3, 4, 5, 6, 7, 8)
        told = self.checked(above, below)
        self.assertEqual((told[0], told[2][0]), (5, "thick"))
        # Each of them must lie above the next one.
        above, below = (1, 2, 3, 4, 5, 6, 7, 1, 0, 0, 0, 0), (2, 3, 4, 5, 6, 7, 8, 0, 0, 0, 0, 8)
        told = self.checked(above, below)
        self.assertEqual(told[:2], (8, tuple((wire, wire - 1) for wire in range(1, 9))))
        self.assertEqual(told[2], ("chain", tuple(range(1, 9))))

    def test_many_by_chance(self):
        for seed in range(300):
            above, below = some_channel(seed, 8)
            try:
                self.checked(above, below)
            except Ringed:
                self.ringed(above, below)


class TestRinged(Channels):
    def test_two(self):
        self.assertEqual(set(self.ringed((1, 2), (2, 1))), {1, 2})
        self.assertEqual(set(self.ringed((0, 5, 0, 7), (5, 7, 0, 5))), {5, 7})

    def test_three_and_more(self):
        self.assertIn(self.ringed((1, 2, 3), (2, 3, 1)), ((1, 2, 3), (2, 3, 1), (3, 1, 2)))
        ring = self.ringed((1, 2, 3, 4, 5, 6, 7, 8), (2, 3, 4, 5, 6, 7, 8, 1))
        self.assertEqual(len(ring), 8)
        ring = self.ringed((4, 2, 4, 6, 8), (2, 4, 1, 1, 6))
        self.assertEqual(set(ring), {2, 4})

    def test_wires_behind_a_ring_are_none_of_it(self):
        # 1 and 2 ring, 3 lies below them, 4 above.
        self.assertEqual(set(self.ringed((1, 2, 2, 4, 4), (2, 1, 3, 1, 3))), {1, 2})

    def test_a_wire_that_spans_one_column_is_none_of_a_ring(self):
        self.checked((1, 3, 0), (3, 0, 1))
        self.checked((1, 2, 1), (2, 0, 0))
        self.checked((1, 1), (1, 1))

    def test_by_chance(self):
        seen = {}
        for seed in range(600):
            above, below = some_channel(seed, 8)
            try:
                wired(above, below)
            except Ringed:
                seen[len(self.ringed(above, below))] = True
        self.assertGreater(len(seen), 2)


def spoilt(told):
    """Things like what was told, that are told nowhere; those that may be good are left out."""
    many, tracks, reason = told
    yield from ((many, tracks), (many, tracks, reason, 0), [many, tracks, reason], (tracks, many, reason))
    yield from ((many + 1, tracks, reason), (many - 1, tracks, reason), (-many - 1, tracks, reason))
    yield from ((10 ** 39, tracks, reason), (many == 1 or None, tracks, reason), (str(many), tracks, reason))
    yield from ((many, list(tracks), reason), (many, tracks, list(reason)), (many, tracks, reason + (0,)))
    yield from ((many, tracks, reason[0]), (many, tracks, ()), (many, tracks, None), (many, tracks, ("",) + reason[1:]))
    yield from ((many, tracks + ((9, 0),), reason), (many, tracks + ((0, 0),), reason), (many, tracks + ((),), reason))
    for at, (wire, track) in enumerate(tracks):
        ahead, behind = tracks[:at], tracks[at + 1:]
        yield many, ahead + behind, reason
        yield many, ahead + (tracks[at],) + tracks[at:], reason
        others = ([wire, track], (wire,), (wire, track, 0), (wire, None), (None, track), wire, (str(wire), track))
        for other in others + ((wire, many), (wire, -1), (wire, 10 ** 39), (9, track), (0, track), (wire, track + many)):
            yield many, ahead + (other,) + behind, reason


class TestIsWired(Channels):
    def good(self, channel, *things):
        for thing in things:
            self.assertIs(is_wired(*channel, thing), True, thing)

    def bad(self, channel, *things):
        for thing in things:
            self.assertIs(is_wired(*channel, thing), False, thing)

    def test_all_tracks_and_reasons_of_a_few_wires(self):
        for seed in range(60):
            channel = some_channel(seed, 3)
            wires = sorted(spans_by_words(*channel))
            for many in range(5):
                reasons = reasons_by_words(*channel, many)
                ways = list(all_ways(*channel, many))
                for tracks in itertools.product(range(4), repeat=len(wires)):
                    tracks = tuple(zip(wires, tracks))
                    for reason in reasons + [("thick", 0), ("thick", 1), ("chain", tuple(wires)), ("all",)]:
                        answer = tracks in ways and reason in reasons
                        self.assertIs(is_wired(*channel, (many, tracks, reason)), answer, (channel, many, tracks, reason))

    def test_any_other_such_tracks(self):
        channel = (1, 0, 1, 2, 0, 2), (3, 0, 0, 0, 0, 3)
        self.good(channel, (2, ((1, 0), (2, 0), (3, 1)), ("thick", 0)))
        channel = (1, 2, 1, 2), (0, 0, 0, 0)
        self.good(channel, (2, ((1, 0), (2, 1)), ("thick", 1)), (2, ((1, 1), (2, 0)), ("thick", 1)))

    def test_spoilt_ones(self):
        for seed in range(80):
            channel = some_channel(seed)
            try:
                told = wired(*channel)
            except Ringed:
                continue
            self.good(channel, told)
            self.bad(channel, *spoilt(told))

    def test_no_wire(self):
        channel = (0, 1, 0), (0, 1, 0)
        self.good(channel, (0, (), ("thick", 0)))
        self.bad(channel, (0, (), ("all",)), (0, (), ("chain", ())), (0, (), ("thick", 1)), (1, (), ("thick", 0)))
        self.bad(channel, (0, ((1, 0),), ("thick", 0)), (1, ((1, 0),), ("thick", 1)), (False, (), ("thick", 0)))
        self.bad(channel, (0, (), ("thick", False)), (0, [], ("thick", 0)), (0, (), ["thick", 0]), (0, None, ("thick", 0)))

    def test_truths(self):
        channel = (1, 2, 1, 2, 0), (0, 0, 0, 0, 0)
        good = (2, ((1, 0), (2, 1)), ("thick", 1))
        self.good(channel, good)
        self.bad(channel, (2, ((True, 0), (2, 1)), ("thick", 1)), (2, ((1, False), (2, 1)), ("thick", 1)))
        self.bad(channel, (2, ((1, 0), (2, True)), ("thick", 1)), (2, ((1, 0), (2, 1)), ("thick", True)))
        self.good(((1, 1), (0, 0)), (1, ((1, 0),), ("thick", 0)))
        self.bad(((1, 1), (0, 0)), (True, ((1, 0),), ("thick", 0)), (1, ((1, 0),), ("thick", False)))
        channel = (1, 1, 2, 2, 3), (0, 2, 0, 3, 0)
        self.bad(channel, (3, ((1, 0), (2, 1), (3, 2)), ("chain", (True, 2, 3))))

    def test_wires_that_do_not_rise(self):
        channel = (1, 2, 1, 2), (0, 0, 0, 0)
        self.bad(channel, (2, ((2, 1), (1, 0)), ("thick", 1)))

    def test_two_on_one_track(self):
        channel = (1, 2, 1, 2, 3, 3), (0,) * 6
        self.good(channel, (2, ((1, 0), (2, 1), (3, 0)), ("thick", 1)), (2, ((1, 0), (2, 1), (3, 1)), ("thick", 1)))
        self.bad(channel, (2, ((1, 0), (2, 0), (3, 1)), ("thick", 1)), (1, ((1, 0), (2, 0), (3, 0)), ("thick", 0)))

    def test_the_orders(self):
        channel = (1, 0, 1), (2, 2, 0)
        self.good(channel, (2, ((1, 0), (2, 1)), ("thick", 0)))
        self.bad(channel, (2, ((1, 1), (2, 0)), ("thick", 0)))

    def test_chains(self):
        # 1 lies above 2, 2 above 3; no column that three wires span.
        channel = (1, 1, 2, 2, 0, 3), (0, 2, 0, 3, 0, 0)
        tracks = ((1, 0), (2, 1), (3, 2))
        self.good(channel, (3, tracks, ("chain", (1, 2, 3))))
        for row in ((1, 2), (2, 3), (3, 2, 1), (1, 3, 2), (1, 2, 2), (1, 2, 3, 3), (1, 2, 9), (), (1, 2, "3"), (1, 2, None)):
            self.bad(channel, (3, tracks, ("chain", row)))
        self.bad(channel, (3, tracks, ("chain", [1, 2, 3])), (3, tracks, ("chain",)), (3, tracks, ("chain", 1, 2, 3)))
        self.bad(channel, (3, tracks, ("all",)), (3, tracks, ("thick", 1)), (3, tracks, ("chain", ((1,), 2, 3))))

    def test_any_chain(self):
        # 1 lies above 2, 2 above 3; and 4 above 5, 5 above 6; no column that three wires span.
        channel = (1, 1, 2, 2, 0, 3, 4, 4, 5, 5, 0, 6), (0, 2, 0, 3, 0, 0, 0, 5, 0, 6, 0, 0)
        self.assertEqual(chains_by_words(*channel, 3), [(1, 2, 3), (4, 5, 6)])
        tracks = tuple((wire, (wire - 1) % 3) for wire in range(1, 7))
        for row in ((1, 2, 3), (4, 5, 6)):
            self.good(channel, (3, tracks, ("chain", row)))
        self.bad(channel, (3, tracks, ("chain", (1, 2, 6))), (3, tracks, ("chain", (4, 5, 3))))

    def test_all_with_more_tracks_than_are_needed(self):
        channel = (1, 1, 2, 2, 3, 3), (0,) * 6
        self.good(channel, (1, ((1, 0), (2, 0), (3, 0)), ("thick", 0)))
        self.good(channel, (2, ((1, 0), (2, 1), (3, 0)), ("all",)), (3, ((1, 2), (2, 1), (3, 0)), ("all",)))
        self.bad(channel, (2, ((1, 0), (2, 1), (3, 0)), ("thick", 0)), (4, ((1, 0), (2, 1), (3, 3)), ("all",)))
        self.bad(channel, (3, ((1, 0), (2, 1), (3, 0)), ("all",)), (1, ((1, 0), (2, 0), (3, 0)), ("all",)))
        tracks = dict(wired(*ALL)[1])
        self.good(ALL, (4, tuple(tracks.items()), ("all",)))
        self.bad(ALL, (3, tuple(tracks.items()), ("all",)), (4, tuple(tracks.items()), ("thick", 3)))

    def test_thick_goes_ahead_of_a_chain(self):
        # Three wires span column 2, and they are in a chain, too.
        channel = (1, 2, 1, 0, 3), (2, 3, 0, 2, 0)
        tracks = ((1, 0), (2, 1), (3, 2))
        self.good(channel, (3, tracks, ("thick", 1)))
        self.bad(channel, (3, tracks, ("chain", (1, 2, 3))), (3, tracks, ("thick", 2)), (3, tracks, ("all",)))

    def test_where_the_orders_ring(self):
        channel = (1, 2), (2, 1)
        for tracks in itertools.product(range(3), repeat=2):
            for reason in (("thick", 0), ("chain", (1, 2)), ("chain", (2, 1)), ("all",), ("chain", (1, 2, 1))):
                for many in range(4):
                    self.bad(channel, (many, tuple(zip((1, 2), tracks)), reason))

    def test_things_that_are_none(self):
        for channel in (((0,), (0,)), ((1, 2, 1), (2, 0, 0)), ((1, 2), (2, 1))):
            self.bad(channel, *odd_things())

    def test_a_thing_exchanged_at_any_place(self):
        others = (None, True, False, "", "all", [], (), [1], -1, 9, 10 ** 39, ("thick", 99), ((1, 0),))
        for seed in range(0, 60, 3):
            channel = some_channel(seed)
            try:
                told = wired(*channel)
            except Ringed:
                continue
            for path in spots(told):
                for other in others:
                    new = with_thing(told, path, other)
                    if other != thing_at(told, path):
                        self.bad(channel, new)
                inner = thing_at(told, path)
                if isinstance(inner, tuple):
                    self.bad(channel, with_thing(told, path, list(inner)))


class TestTold(Channels):
    def test_asked_again(self):
        for seed in range(60):
            above, below = some_channel(seed)
            try:
                told = wired(above, below)
            except Ringed:
                self.assertEqual(self.ringed(above, below), self.ringed(above, below))
                continue
            self.assertEqual((above, below), some_channel(seed))
            self.assertEqual(wired(above, below), told)


if __name__ == "__main__":
    unittest.main()
