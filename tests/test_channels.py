"""Points 22 to 28: channels, routings, rings, pieces and bent routings."""

import unittest
from random import Random

from chipfloor.channels import above, density, depth, is_bent_routing, is_routing, least_bent_routing, least_routing
from chipfloor.channels import left_edge, pieces, ring, spans, wire_length
from chipfloor.errors import BadChannel, BadTracks, HasRing, TooMany
from tests import judge
from tests import judge_channels as plain
from tests.helpers import FloorCase

OF_CHANNELS = (spans, density, above, depth, left_edge, least_routing, ring, pieces, least_bent_routing)
OF_TRACKS = (is_routing, wire_length, is_bent_routing)
# Two nets cross over: each one is above the other one in a column.
CROSSED = ((1, 2), (2, 1))
# Three rows: 1 above 2 above 3, and 4 apart from them.
STAIRS = ((1, 2, 0, 4, 0), (2, 3, 0, 0, 4))
NO_PINS = ((0, 0, 0), (0, 0, 0))


class Channels(FloorCase):
    """Point 22, the errors."""

    def check_all(self, index, top, bottom):
        for function in OF_CHANNELS:
            self.check_error(BadChannel, ("index", index), function, top, bottom)
        for function in OF_TRACKS:
            self.check_error(BadChannel, ("index", index), function, top, bottom, ())
            self.check_error(BadChannel, ("index", index), function, top, bottom, None)

    def test_no_channels(self):
        for value in (None, True, 0, 7, "", "1", [], [1], {}, {0: 1}, (), (0,) * 17, BadChannel(0)):
            self.check_all(None, value, (1,))
            self.check_all(None, (1,), value)
            self.check_all(None, value, value)

    def test_unlike_lengths(self):
        self.check_all(None, (1, 2), (1,))
        self.check_all(None, (1,), (1, 2))
        self.check_all(None, (1,) * 16, (1,) * 15)
        self.check_all(None, (None,), (1, 2))
        self.check_all(None, (0,) * 17, (0,) * 17)

    def test_wrong_pins(self):
        for value in judge.ODD_VALUES:
            if value.__class__ is not int or value not in range(10):
                self.check_all(0, (value, 1), (1, 1))
                self.check_all(0, (1, value), (value, 1))
                self.check_all(1, (1, value), (1, 1))
                self.check_all(1, (1, 1, value), (1, value, 1))
        for value in (10, -1, 10 ** 30, True, False, "1"):
            self.check_all(15, (9,) * 15 + (value,), (0,) * 16)
            self.check_all(15, (9,) * 16, (0,) * 15 + (value,))

    def test_edges(self):
        self.assertEqual(spans((0,), (0,)), ())
        self.assertEqual(spans((9,), (0,)), ((9, 0, 0),))
        self.assertEqual(spans((0,) * 15 + (9,), (9,) + (0,) * 15), ((9, 0, 15),))


class Spans(FloorCase):
    """Points 22 and 23."""

    def test_spans(self):
        self.assertEqual(spans((3, 0, 1, 0), (0, 1, 3, 0)), ((1, 1, 2), (3, 0, 2)))
        self.assertEqual(spans((5, 5), (5, 5)), ((5, 0, 1),))
        self.assertEqual(spans(*NO_PINS), ())

    def test_density(self):
        self.assertEqual(density(*NO_PINS), 0)
        self.assertEqual(density((1, 0, 1), (0, 2, 0)), 2)
        self.assertEqual(density((1, 2), (0, 1)), 2)
        self.assertEqual(density((1, 0, 2), (0, 1, 0)), 1)
        self.assertEqual(density((1, 2, 3, 4, 5, 6, 7, 8, 9), (9, 8, 7, 6, 5, 4, 3, 2, 1)), 9)

    def test_above(self):
        self.assertEqual(above((2, 1, 2, 0, 3, 4), (1, 2, 1, 3, 0, 4)), ((1, 2), (2, 1)))
        self.assertEqual(above((9, 1), (1, 9)), ((1, 9), (9, 1)))
        self.assertEqual(above(*NO_PINS), ())
        self.assertEqual(above((5,), (5,)), ())

    def test_depth(self):
        self.assertEqual(depth(*NO_PINS), 0)
        self.assertEqual(depth((0,), (4,)), 1)
        self.assertEqual(depth((4,), (4,)), 1)
        self.assertEqual(depth(*STAIRS), 3)
        self.assertEqual(depth((1, 2, 3, 4, 5, 6, 7, 8), (2, 3, 4, 5, 6, 7, 8, 9)), 9)
        self.assertEqual(depth((1, 1, 2, 1), (2, 3, 3, 3)), 3)

    def test_all_small_channels(self):
        for top, bottom in plain.all_channels(3, 3):
            self.check_channel(top, bottom)

    def test_random(self):
        source = Random(41)
        for _ in range(300):
            self.check_channel(*plain.random_channel(source, 16, source.randint(1, 9), source.randint(20, 80)))

    def check_channel(self, top, bottom):
        self.assertEqual(spans(top, bottom), plain.plain_spans(top, bottom), (top, bottom))
        self.assertEqual(density(top, bottom), plain.plain_density(top, bottom), (top, bottom))
        self.assertEqual(above(top, bottom), plain.plain_above(top, bottom), (top, bottom))
        if plain.has_plain_ring(top, bottom):
            self.check_error(HasRing, None, depth, top, bottom)
        else:
            self.assertEqual(depth(top, bottom), plain.plain_depth(top, bottom), (top, bottom))


class Routings(FloorCase):
    """Point 24."""

    def test_no_tuples_of_tracks(self):
        for value in judge.ODD_VALUES + ([(1,)], (1,), ([1],), "1", ((1,), None), ((1,), []), ((1,), 1), BadTracks("x")):
            self.assertIs(is_routing((1,), (0,), value), False, value)
            self.check_error(BadTracks, None, wire_length, (1,), (0,), value)

    def test_wrong_nets(self):
        for value in judge.ODD_VALUES + (2, 9, (1,), [1], -1, ((1, 0, 0),)):
            if value.__class__ is not int or value != 1:
                self.assertIs(is_routing((1,), (0,), ((value,),)), False, value)
                self.assertIs(is_routing((1,), (0,), ((1,), (value,))), False, value)
                self.assertIs(is_routing(*NO_PINS, ((value,),)), False, value)

    def test_net_of_no_pin(self):
        self.assertIs(is_routing((1, 0), (0, 0), ((1,), (0,))), False)
        self.assertIs(is_routing((1, 0), (0, 0), ((1, 0),)), False)

    def test_each_net_once(self):
        self.assertIs(is_routing((1, 2), (0, 0), ((1, 2),)), True)
        self.assertIs(is_routing((1, 2), (0, 0), ((2, 1),)), True)
        self.assertIs(is_routing((1, 2), (0, 0), ((1,),)), False)
        self.assertIs(is_routing((1, 2), (0, 0), ((1, 2), (1,))), False)
        self.assertIs(is_routing((1, 2), (0, 0), ((1, 1, 2),)), False)
        self.assertIs(is_routing((1, 2), (0, 0), ((1, 1),)), False)

    def test_empty_tracks(self):
        self.assertIs(is_routing(*NO_PINS, ()), True)
        self.assertIs(is_routing(*NO_PINS, ((), ())), True)
        self.assertIs(is_routing((1,), (2,), ((), (1,), (), (2,), ())), True)
        self.assertIs(is_routing((1,), (2,), ((), (2,), (), (1,), ())), False)

    def test_common_column(self):
        self.assertIs(is_routing((1, 0, 1), (0, 2, 0), ((1, 2),)), False)
        self.assertIs(is_routing((1, 1, 2), (0, 2, 0), ((1, 2),)), False)
        self.assertIs(is_routing((1, 1, 2), (0, 0, 2), ((1, 2),)), True)

    def test_upper_ahead_of_lower(self):
        self.assertIs(is_routing(*STAIRS, ((1,), (2, 4), (3,))), True)
        self.assertIs(is_routing(*STAIRS, ((1,), (3,), (2, 4))), False)
        self.assertIs(is_routing(*CROSSED, ((1,), (2,))), False)
        self.assertIs(is_routing(*CROSSED, ((2,), (1,))), False)

    def test_left_edge(self):
        self.assertEqual(left_edge(*NO_PINS), ())
        self.assertEqual(left_edge((1, 0, 2), (0, 1, 0)), ((1, 2),))
        self.assertEqual(left_edge((2, 1, 0), (0, 2, 1)), ((2,), (1,)))
        # Those that begin together are taken by their ends, then by their numbers.
        self.assertEqual(left_edge((2, 0, 1), (1, 2, 0)), ((2,), (1,)))
        self.assertEqual(left_edge((2, 0, 0), (1, 0, 0)), ((1,), (2,)))
        self.assertEqual(left_edge((3, 3, 2, 2, 5), (1, 4, 1, 4, 5)), ((3, 2, 5), (1,), (4,)))

    def test_left_edge_goes_on_where_the_last_one_ends(self):
        self.assertEqual(left_edge((1, 1, 2, 0, 3, 3), (0, 0, 2, 0, 0, 0)), ((1, 2, 3),))
        self.assertEqual(left_edge((1, 1, 0, 0), (0, 2, 2, 0)), ((1,), (2,)))

    def test_left_edge_of_random_channels(self):
        source = Random(42)
        for _ in range(300):
            top, bottom = plain.random_channel(source, 16, source.randint(1, 9), source.randint(20, 80))
            tracks = left_edge(top, bottom)
            self.assertEqual(tracks, plain.plain_left_edge(top, bottom), (top, bottom))
            self.assertEqual(len(tracks), density(top, bottom))
            self.assertIs(is_routing(top, bottom, tracks), plain.is_plain_routing(top, bottom, tracks))
            if not above(top, bottom):
                self.assertIs(is_routing(top, bottom, tracks), True)

    def test_random_tracks(self):
        source = Random(43)
        found = {True: 0, False: 0}
        for _ in range(3000):
            top, bottom = plain.random_channel(source, 6, 3, 45)
            nets = plain.nets_of(top, bottom)
            if source.randrange(8) == 0:
                nets = nets + [source.randint(1, 3)]
            tracks = plain.as_tracks(nets, [source.randrange(3) for _ in nets], 3)
            wanted = plain.is_plain_routing(top, bottom, tracks)
            self.assertIs(is_routing(top, bottom, tracks), wanted, (top, bottom, tracks))
            found[wanted] += 1
        self.assertGreater(min(found.values()), 500)


class LeastRouting(FloorCase):
    """Point 25."""

    def check_least(self, top, bottom):
        if plain.has_plain_ring(top, bottom):
            self.check_error(HasRing, None, least_routing, top, bottom)
            return
        tracks = least_routing(top, bottom)
        self.assertIsInstance(tracks, tuple)
        self.assertEqual({track.__class__ for track in tracks} - {tuple}, set())
        self.assertTrue(plain.is_plain_routing(top, bottom, tracks), (top, bottom, tracks))
        nets = plain.nets_of(top, bottom)
        wanted = plain.least_rows(nets, lambda rows: plain.is_plain_routing(top, bottom, rows), len(nets))
        self.assertEqual(len(tracks), wanted, (top, bottom, tracks))

    def test_edges(self):
        self.assertEqual(least_routing(*NO_PINS), ())
        self.assertEqual(least_routing((0,), (9,)), ((9,),))
        self.assertEqual(least_routing((7,), (7,)), ((7,),))
        self.assertEqual(least_routing((1,), (2,)), ((1,), (2,)))
        self.check_error(HasRing, None, least_routing, *CROSSED)

    def test_more_than_density_and_depth(self):
        top, bottom = (0, 3, 5, 0), (1, 5, 2, 1)
        self.assertEqual((density(top, bottom), depth(top, bottom)), (3, 3))
        self.assertEqual(len(least_routing(top, bottom)), 4)
        self.check_least(top, bottom)

    def test_small_channels(self):
        for top, bottom in plain.all_channels(3, 2):
            self.check_least(top, bottom)

    def test_random(self):
        source = Random(44)
        for _ in range(150):
            self.check_least(*plain.random_channel(source, 8, 4, source.randint(30, 60)))

    def test_leftmost_first_is_not_always_least(self):
        # If 2 took the first track, 4 would need the second one and 1 a third one.
        self.assertEqual(len(least_routing((2, 0, 2, 4), (0, 4, 0, 1))), 2)
        self.check_least((2, 0, 2, 4), (0, 4, 0, 1))
        self.check_least((0, 5, 0, 2), (4, 2, 4, 3))

    def test_random_wide_channels(self):
        source = Random(45)
        for _ in range(40):
            self.check_least(*plain.random_channel(source, 12, 5, source.randint(30, 45)))

    def test_nine_nets(self):
        top = (1, 2, 3, 4, 5, 6, 7, 8)
        self.assertEqual(least_routing(top, (2, 3, 4, 5, 6, 7, 8, 9)), tuple((net,) for net in range(1, 10)))
        self.assertEqual(sorted(least_routing((0,) * 9, (1, 2, 3, 4, 5, 6, 7, 8, 9))[0]), list(range(1, 10)))

    def test_equal_arguments_have_equal_results(self):
        self.assertEqual(least_routing(*STAIRS), least_routing(tuple(list(STAIRS[0])), tuple(list(STAIRS[1]))))


class WireLength(FloorCase):
    """Point 25, the lengths."""

    def test_known_ones(self):
        self.assertEqual(wire_length(*NO_PINS, ()), (0, 0, 0))
        self.assertEqual(wire_length(*NO_PINS, ((), ())), (0, 0, 0))
        self.assertEqual(wire_length((1, 0, 1), (0, 2, 0), ((1,), (2,))), (2, 2, 1))
        self.assertEqual(wire_length((1, 0, 1), (0, 2, 0), ((2,), (1,))), (2, 4, 2))
        self.assertEqual(wire_length((1, 0, 1), (0, 2, 0), ((), (1,), (), (2,), ())), (2, 4, 2))
        self.assertEqual(wire_length(*STAIRS, ((1,), (2, 4), (3,))), (1 + 1, 1 + 2 + 2, 2 + 1 + 2))
        self.assertEqual(wire_length((5, 5), (5, 5), ((5,),)), (1, 2, 2))

    def test_random(self):
        source = Random(46)
        for _ in range(300):
            top, bottom = plain.random_channel(source, 16, 9, source.randint(20, 50))
            if plain.has_plain_ring(top, bottom):
                self.check_error(BadTracks, None, wire_length, top, bottom, left_edge(top, bottom))
            else:
                tracks = ((),) * source.randint(0, 2) + least_routing(top, bottom) + ((),) * source.randint(0, 2)
                along = sum(last - first for _, first, last in plain.plain_spans(top, bottom))
                down = sum(plain.row_of(tracks, net) + 1 for net in top if net)
                up = sum(plain.row_of(tracks[::-1], net) + 1 for net in bottom if net)
                self.assertEqual(wire_length(top, bottom, tracks), (along, down, up), (top, bottom, tracks))

    def test_no_routings(self):
        for tracks in (((2,), (1,)), ((1, 2),), ((1,),), ((1,), (2,), (1,)), ((True,), (2,)), ((1,), (2,), None)):
            self.check_error(BadTracks, None, wire_length, (1,), (2,), tracks)
        for tracks in ((), ((1,), (2,)), ((2,), (1,))):
            self.check_error(BadTracks, None, wire_length, *CROSSED, tracks)


class Ring(FloorCase):
    """Point 26."""

    def check_ring(self, top, bottom):
        found = ring(top, bottom)
        if not plain.has_plain_ring(top, bottom):
            self.assertIsNone(found, (top, bottom))
            return
        self.assertIsInstance(found, tuple)
        self.assertGreater(len(found), 2, (top, bottom, found))
        self.assertEqual(found[0], found[-1])
        self.assertEqual(len(set(found)), len(found) - 1, (top, bottom, found))
        for pair in zip(found, found[1:]):
            self.assertIn(pair, plain.plain_above(top, bottom), (top, bottom, found))

    def test_no_ring(self):
        for top, bottom in (NO_PINS, STAIRS, ((1,), (1,)), ((1, 1, 2), (2, 3, 3))):
            self.assertIsNone(ring(top, bottom))

    def test_rings(self):
        for top, bottom in (CROSSED, ((1, 2, 3), (2, 3, 1)), ((9, 4, 1, 2, 3), (4, 1, 2, 3, 1)),
                            ((1, 2, 3, 4, 5, 6, 7, 8, 9), (2, 3, 4, 5, 6, 7, 8, 9, 1)),
                            ((1, 2, 3, 4, 3), (2, 1, 4, 3, 5)), ((1, 2, 3, 3, 4), (2, 3, 1, 4, 9))):
            self.check_ring(top, bottom)
            self.assertIsNotNone(ring(top, bottom))
            self.check_error(HasRing, None, least_routing, top, bottom)
            self.check_error(HasRing, None, depth, top, bottom)

    def test_all_small_channels(self):
        for top, bottom in plain.all_channels(3, 3):
            self.check_ring(top, bottom)

    def test_random(self):
        source = Random(47)
        for _ in range(500):
            self.check_ring(*plain.random_channel(source, 16, 9, source.randint(40, 90)))


class Pieces(FloorCase):
    """Point 27."""

    def test_known_ones(self):
        self.assertEqual(pieces(*NO_PINS), ())
        self.assertEqual(pieces((4,), (4,)), ((4, 0, 0),))
        self.assertEqual(pieces((1, 0, 1, 2), (0, 0, 1, 1)), ((1, 0, 2), (1, 2, 3), (2, 3, 3)))
        self.assertEqual(pieces((9, 0, 0, 8), (8, 9, 0, 9)), ((8, 0, 3), (9, 0, 1), (9, 1, 3)))

    def test_random(self):
        source = Random(48)
        for _ in range(300):
            top, bottom = plain.random_channel(source, 16, source.randint(1, 9), source.randint(10, 90))
            self.assertEqual(pieces(top, bottom), plain.plain_pieces(top, bottom), (top, bottom))


class BentRoutings(FloorCase):
    """Point 28, is_bent_routing."""

    def test_no_tuples_of_tracks(self):
        for value in judge.ODD_VALUES + ([((1, 0, 0),)], ((1, 0, 0),), ([(1, 0, 0)],), (((1, 0, 0),), None)):
            self.assertIs(is_bent_routing((1,), (0,), value), False, value)

    def test_wrong_pieces(self):
        for value in judge.ODD_VALUES + (1, (1,), (1, 0), (1, 0, 0, 0), [1, 0, 0], (2, 0, 0), (1, 0, 1), (1, 1, 1),
                                         (True, 0, 0), (1, False, 0), (1, 0, False), ("1", 0, 0), (1, None, 0),
                                         (1, 0, [0]), ((1,), 0, 0), (0, 0, 0)):
            self.assertIs(is_bent_routing((1,), (0,), ((value,),)), False, value)
            self.assertIs(is_bent_routing((1,), (0,), (((1, 0, 0),), (value,))), False, value)

    def test_each_piece_once(self):
        one, other = (1, 0, 1), (1, 1, 2)
        for tracks, wanted in ((((one, other),), True), (((other, one),), True), (((one,), (other,)), True),
                               (((other,), (one,)), True), (((one,),), False), (((one, other), (one,)), False),
                               (((one, one, other),), False), (((1, 0, 2),), False), ((), False)):
            self.assertIs(is_bent_routing((1, 1, 1), (0, 0, 0), tracks), wanted, tracks)

    def test_common_column(self):
        top, bottom = (1, 1, 2), (0, 0, 2)
        self.assertIs(is_bent_routing(top, bottom, (((1, 0, 1), (2, 2, 2)),)), True)
        top, bottom = (1, 0, 1), (0, 2, 0)
        self.assertIs(is_bent_routing(top, bottom, (((1, 0, 2), (2, 1, 1)),)), False)
        self.assertIs(is_bent_routing(top, bottom, (((1, 0, 2),), ((2, 1, 1),))), True)
        self.assertIs(is_bent_routing(top, bottom, (((2, 1, 1),), ((1, 0, 2),))), True)

    def test_upper_ahead_of_lower(self):
        top, bottom = (1, 0, 2), (2, 1, 0)
        self.assertIs(is_bent_routing(top, bottom, (((1, 0, 1),), ((2, 0, 2),))), True)
        self.assertIs(is_bent_routing(top, bottom, (((2, 0, 2),), ((1, 0, 1),))), False)
        # The two pieces of 1 hold the column in which 2 is above it; the others do not.
        top, bottom = (1, 2, 0), (0, 1, 1)
        self.assertIs(is_bent_routing(top, bottom, (((2, 1, 1),), ((1, 0, 1), (1, 1, 2)))), True)
        self.assertIs(is_bent_routing(top, bottom, (((1, 0, 1),), ((2, 1, 1),), ((1, 1, 2),))), False)
        self.assertIs(is_bent_routing(top, bottom, (((1, 1, 2),), ((2, 1, 1),), ((1, 0, 1),))), False)

    def test_ring_of_nets(self):
        # 1 is above 2 at the left end and below it at the right one.
        top, bottom = (1, 1, 2), (2, 0, 1)
        self.assertIsNotNone(ring(top, bottom))
        self.assertIs(is_bent_routing(top, bottom, (((1, 0, 1),), ((2, 0, 2),), ((1, 1, 2),))), True)
        self.assertIs(is_bent_routing(top, bottom, (((1, 1, 2),), ((2, 0, 2),), ((1, 0, 1),))), False)

    def test_no_pieces(self):
        self.assertIs(is_bent_routing(*NO_PINS, ()), True)
        self.assertIs(is_bent_routing(*NO_PINS, (((1, 0, 0),),)), False)

    def test_random_tracks(self):
        source = Random(49)
        found = {True: 0, False: 0}
        for _ in range(3000):
            top, bottom = plain.random_channel(source, 5, 2, 50)
            some = list(plain.plain_pieces(top, bottom))
            if some and source.randrange(8) == 0:
                some = some + [source.choice(some)]
            tracks = plain.as_tracks(some, [source.randrange(3) for _ in some], 3)
            wanted = plain.is_plain_bent(top, bottom, tracks)
            self.assertIs(is_bent_routing(top, bottom, tracks), wanted, (top, bottom, tracks))
            found[wanted] += 1
        self.assertGreater(min(found.values()), 500)


class LeastBentRouting(FloorCase):
    """Point 28, least_bent_routing."""

    def check_least(self, top, bottom):
        tracks = least_bent_routing(top, bottom)
        some = plain.plain_pieces(top, bottom)
        wanted = plain.least_rows(some, lambda rows: plain.is_plain_bent(top, bottom, rows), len(some))
        if wanted is None:
            self.assertIsNone(tracks, (top, bottom))
            return None
        self.assertIsInstance(tracks, tuple)
        self.assertEqual({track.__class__ for track in tracks} - {tuple}, set())
        self.assertTrue(plain.is_plain_bent(top, bottom, tracks), (top, bottom, tracks))
        self.assertEqual(len(tracks), wanted, (top, bottom, tracks))
        return wanted

    def test_edges(self):
        self.assertEqual(least_bent_routing(*NO_PINS), ())
        self.assertEqual(least_bent_routing((0,), (3,)), (((3, 0, 0),),))
        self.assertEqual(least_bent_routing((1,), (2,)), (((1, 0, 0),), ((2, 0, 0),)))
        self.assertIsNone(least_bent_routing(*CROSSED))

    def test_ring_of_nets(self):
        self.assertEqual(self.check_least((1, 1, 2), (2, 0, 1)), 3)

    def test_bent_ones_take_fewer_tracks(self):
        top, bottom = (1, 1, 2, 2, 0), (2, 0, 0, 3, 3)
        self.assertEqual(len(least_routing(top, bottom)), 3)
        self.assertEqual(self.check_least(top, bottom), 2)

    def test_all_small_channels(self):
        for top, bottom in plain.all_channels(3, 2):
            self.check_least(top, bottom)

    def test_random(self):
        source = Random(50)
        found = []
        for _ in range(400):
            top, bottom = plain.random_channel(source, 6, 4, source.randint(30, 80))
            if len(plain.plain_pieces(top, bottom)) <= 5:
                found.append(self.check_least(top, bottom))
        self.assertGreater(len(found), 100)
        self.assertIn(None, found)

    def test_no_more_than_without_bends(self):
        source = Random(51)
        for _ in range(200):
            top, bottom = plain.random_channel(source, 12, 9, 40)
            if ring(top, bottom) is None and len(pieces(top, bottom)) <= 12:
                tracks = least_bent_routing(top, bottom)
                self.assertTrue(plain.is_plain_bent(top, bottom, tracks), (top, bottom, tracks))
                self.assertLessEqual(len(tracks), len(least_routing(top, bottom)), (top, bottom, tracks))

    def test_twelve_pieces(self):
        tracks = least_bent_routing((1,) * 13, (0,) * 13)
        self.assertEqual(len(tracks), 1)
        self.assertTrue(plain.is_plain_bent((1,) * 13, (0,) * 13, tracks))
        self.check_error(TooMany, ("most", 12), least_bent_routing, (1,) * 14, (0,) * 14)
        self.check_error(TooMany, ("most", 12), least_bent_routing, (1, 2) * 8, (2, 1) * 8)


if __name__ == "__main__":
    unittest.main()
