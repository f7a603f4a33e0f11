"""Points 54 to 58: lists of devices."""

import unittest
from random import Random

from chipfloor.errors import BadDevices
from chipfloor.netlists import colors, drivers, run, same, signature
from tests import judge_netlists as plain
from tests.helpers import FloorCase

ONE = plain.ONE
ALONE = (colors, signature, drivers)


def triples(*groups):
    """Devices "and", one for each group of three nets."""
    return tuple(("and", group[0], tuple(group[1:])) for group in groups)


class Devices(FloorCase):
    """Point 54."""

    def check_all(self, field, devices):
        for function in ALONE:
            self.check_error(BadDevices, field, function, devices)
        for other in ((), None, (None,)):
            self.check_error(BadDevices, field, same, devices, other)
            self.check_error(BadDevices, field, run, devices, other)
        self.check_error(BadDevices, field, same, (), devices)
        self.check_error(BadDevices, field, same, (ONE,), devices)

    def test_no_lists(self):
        for value in plain.NO_LISTS:
            self.check_all(("index", None), value)

    def test_wrong_devices(self):
        for value in plain.NO_DEVICES:
            self.check_all(("index", 0), (value,))
            self.check_all(("index", 1), (ONE, value, value))
            self.check_all(("index", 7), (ONE,) * 7 + (value,))

    def test_first_argument_first(self):
        self.check_error(BadDevices, ("index", 1), same, (ONE, None), None)
        self.check_error(BadDevices, ("index", 0), same, (None,), (ONE, None))
        self.check_error(BadDevices, ("index", 1), same, (ONE,), (ONE, None))

    def test_greatest_nets(self):
        self.assertEqual(drivers((("pass", 12, (12, 12, 12)),)), ((), ()))

    def test_no_known_nets(self):
        for value in plain.NO_KNOWN:
            self.check_error(BadDevices, ("index", None), run, (ONE,), value)
            self.check_error(BadDevices, ("index", None), run, (), value)


class Same(FloorCase):
    """Point 55."""

    def check_same(self, one, other):
        answer = same(one, other)
        self.assertTrue(answer is not None and plain.are_same(one, other, answer), (one, other, answer))

    def check_any(self, one, other):
        if plain.can_be_same(one, other):
            self.check_same(one, other)
            return 1
        self.assertIsNone(same(one, other), (one, other))
        return 0

    def test_no_device(self):
        self.assertEqual(same((), ()), ())
        self.assertIsNone(same((), (ONE,)))
        self.assertIsNone(same((ONE,), ()))

    def test_one_device(self):
        self.check_same((("and", 2, (0, 1)),), (("and", 5, (7, 12)),))
        self.check_same((("not", 2, (2, 1)),), (("not", 5, (0, 5)),))
        self.check_same((("pass", 2, (1, 3, 1)),), (("pass", 4, (0, 0, 5)),))
        self.assertIsNone(same((("and", 2, (0, 1)),), (("or", 2, (0, 1)),)))
        self.assertIsNone(same((("and", 2, (0, 1)),), (("and", 2, (0, 0)),)))
        self.assertIsNone(same((("and", 2, (0, 1)),), (("and", 2, (0, 2)),)))
        self.assertIsNone(same((("and", 2, (0, 1)),), (("and", 2, (0, 1, 1)),)))
        self.assertIsNone(same((("and", 2, (0, 0)),), (("and", 2, (0,)),)))

    def test_as_many_equal_devices(self):
        one, other = ("and", 2, (0, 1)), ("and", 2, (0, 0))
        self.assertIsNone(same((one, one, other), (one, other, other)))
        self.assertIsNone(same((one, one), (one,)))
        self.check_same((one, one, other), (other, one, one))

    def test_no_net_for_two(self):
        self.assertIsNone(same((("pass", 1, (2,)), ("pass", 3, (4,))), (("pass", 1, (2,)), ("pass", 1, (4,)))))
        self.assertIsNone(same((("pass", 1, (2,)), ("pass", 1, (4,))), (("pass", 1, (2,)), ("pass", 3, (4,)))))

    def test_unlike_rings_of_like_nets(self):
        three = triples((0, 1), (1, 2), (2, 0))
        self.assertIsNone(same(three + triples((3, 4), (4, 5), (5, 3)),
                               triples((0, 1), (1, 2), (2, 3), (3, 4), (4, 5), (5, 0))))
        self.check_same(three + triples((3, 4), (4, 5), (5, 3)),
                        triples((12, 1), (3, 5), (1, 7), (5, 9), (7, 12), (9, 3)))

    def test_each_device_is_for_one_alone(self):
        # All nets but the output are inputs twice: of two devices that are alike, or of two that are not.
        twins = triples((12, 0, 1), (12, 1, 0), (12, 2, 3), (12, 3, 2))
        ring = triples((12, 0, 1), (12, 1, 2), (12, 2, 3), (12, 3, 0))
        self.assertIsNone(same(twins, ring))
        self.assertIsNone(same(ring, twins))
        self.check_same(twins, triples((5, 7, 8), (5, 9, 6), (5, 7, 8), (5, 9, 6)))

    def test_unlike_meshes_of_like_nets(self):
        # Devices are corners, nets the edges between two: of a cube, and of one with two edges crossed.
        cube = ((0, 3, 8), (0, 1, 9), (1, 2, 10), (2, 3, 11), (4, 7, 8), (4, 5, 9), (5, 6, 10), (6, 7, 11))
        twisted = cube[:6] + ((5, 6, 11), (6, 7, 10))
        one, other = triples(*[(12,) + nets for nets in cube]), triples(*[(12,) + nets for nets in twisted])
        self.assertIsNone(same(one, other))
        for each in (one, other):
            self.check_same(each, plain.shuffled(Random(1), each)[0])

    def test_random(self):
        source = Random(121)
        found = 0
        for _ in range(600):
            count = source.randint(1, 5)
            kinds = source.choice((plain.KINDS, ("and",)))
            one = plain.random_devices(source, source.randint(0, 4), count, kinds)
            other = plain.random_devices(source, len(one), count, kinds)
            found += self.check_any(one, other)
        self.assertGreater(found, 20)

    def test_one_input_changed(self):
        source = Random(122)
        lost = 0
        for _ in range(150):
            one = plain.random_devices(source, source.randint(1, 5), source.randint(2, 6), ("and", "or"))
            other = list(plain.shuffled(source, one)[0])
            at = source.randrange(len(other))
            kind, output, inputs = other[at]
            other[at] = (kind, output, inputs[:-1] + (source.choice(plain.nets_of(tuple(other))),))
            lost += 1 - self.check_any(one, tuple(other))
        self.assertGreater(lost, 20)

    def test_shuffled(self):
        source = Random(123)
        for _ in range(200):
            one = plain.random_devices(source, source.randint(0, 8), source.randint(1, 13), source.choice(
                (plain.KINDS, ("or",))))
            self.check_same(one, plain.shuffled(source, one)[0])

    def test_many_like_ones(self):
        source = Random(124)
        for one in (triples((0, 1, 2, 3)) * 8, triples(*[(k, k) for k in range(8)]),
                    triples(*[(12, k, (k + 1) % 12, (k + 5) % 12) for k in range(8)]),
                    triples(*[(k, (k + 1) % 8, (k + 2) % 8, (k + 4) % 8) for k in range(8)])):
            self.check_same(one, plain.shuffled(source, one)[0])


class Colors(FloorCase):
    """Point 56."""

    def check_colors(self, devices):
        answer = colors(devices)
        self.assertIsInstance(answer, tuple)
        self.assertEqual([net for net, _ in answer], plain.nets_of(devices))
        self.assertTrue(all(pair.__class__ is tuple and pair[1].__class__ is int for pair in answer))
        return dict(answer)

    def test_no_device(self):
        self.assertEqual(colors(()), ())
        self.assertEqual(signature(()), signature(()))

    def test_unlike_ones(self):
        source = Random(125)
        lists = [plain.random_devices(source, source.randint(1, 8), source.randint(1, 13)) for _ in range(150)]
        kept = {}
        for devices in lists:
            for net, color in self.check_colors(devices).items():
                counts = (plain.driven(devices, net), plain.input_times(devices, net))
                self.assertEqual(kept.setdefault(color, counts), counts, devices)

    def test_most_of_all(self):
        many = self.check_colors((("and", 0, (1, 1, 1)),) * 8)
        self.assertNotEqual(many[0], many[1])
        self.assertEqual(len(set(self.check_colors(
            (("and", 0, (1, 1, 2)), ("or", 3, (4, 4, 4)), ("or", 3, (0, 3, 3)))).values())), 5)

    def test_all_counts(self):
        # Net 0 drives so many devices, net 1 is an input so many times.
        kept = {}
        for many in range(9):
            for times in range(3 * many + 1):
                inputs = [1] * times + [2] * (3 * many - times)
                devices = tuple(("or", 0, tuple(inputs[3 * at:3 * at + 3])) for at in range(many))
                for net, color in self.check_colors(devices).items():
                    counts = (plain.driven(devices, net), plain.input_times(devices, net))
                    self.assertEqual(kept.setdefault(color, counts), counts, devices)

    def test_stay(self):
        source = Random(126)
        for _ in range(200):
            devices = plain.random_devices(source, source.randint(0, 8), source.randint(1, 13))
            before = self.check_colors(devices)
            other, names = plain.shuffled(source, devices)
            self.assertEqual(self.check_colors(other), {names[net]: color for net, color in before.items()}, devices)
            self.assertEqual(signature(other), signature(devices))

    def test_inputs_of_not_and_pass(self):
        for kind in plain.KINDS:
            self.assertEqual(colors(((kind, 0, (1, 2)),)), colors(((kind, 0, (2, 1)),)))
            self.assertEqual(signature(((kind, 0, (1, 2)),)), signature(((kind, 0, (2, 1)),)))

    def test_unlike_numbers_of_devices(self):
        source = Random(127)
        kept = []
        for _ in range(150):
            devices = plain.random_devices(source, source.randint(0, 8), 2)
            kinds = sorted(kind for kind, _, _ in devices)
            for other, found in kept:
                if other != kinds:
                    self.assertNotEqual(signature(devices), found)
            kept.append((kinds, signature(devices)))
        self.assertNotEqual(signature((ONE,)), signature(()))
        self.assertNotEqual(signature((ONE,)), signature((ONE, ONE)))


class Run(FloorCase):
    """Point 57."""

    def test_kinds(self):
        for kind, wanted in (("and", (0, 0, 0, 1)), ("or", (0, 1, 1, 1)), ("not", (1, 1, 0, 0)), ("pass", (0, 0, 1, 1))):
            for row, value in enumerate(wanted):
                known = ((0, row // 2), (1, row % 2))
                self.assertEqual(run(((kind, 2, (0, 1)),), known), known + ((2, value),))

    def test_three_inputs(self):
        for kind, value in (("and", 0), ("or", 1), ("not", 0), ("pass", 1)):
            self.assertEqual(run(((kind, 3, (2, 1, 0)),), ((0, 0), (1, 1), (2, 1)))[3:], ((3, value),))

    def test_no_device(self):
        self.assertEqual(run((), ()), ())
        self.assertEqual(run((), ((12, 1), (0, 0))), ((0, 0), (12, 1)))

    def test_later_one_counts(self):
        self.assertEqual(run((), ((3, 0), (3, 1))), ((3, 1),))
        self.assertEqual(run((("not", 1, (0,)),), ((0, 1),) * 12 + ((0, 0),)), ((0, 0), (1, 1)))

    def test_all_inputs_must_be_known(self):
        for kind in plain.KINDS:
            self.assertEqual(run(((kind, 2, (0, 1)),), ((0, 1),)), ((0, 1),))
            self.assertEqual(run(((kind, 2, (0, 2)),), ((0, 1),)), ((0, 1),))

    def test_known_outputs_stay(self):
        self.assertEqual(run((("not", 1, (0,)),), ((0, 1), (1, 1))), ((0, 1), (1, 1)))
        self.assertEqual(run((("not", 1, (0,)), ("pass", 1, (0,))), ((0, 1),)), ((0, 1), (1, 0)))
        self.assertEqual(run((("pass", 1, (0,)), ("not", 1, (0,))), ((0, 1),)), ((0, 1), (1, 1)))

    def test_as_many_rounds_as_devices(self):
        devices = tuple(("pass", k, (k - 1,)) for k in range(8, 0, -1))
        self.assertEqual(run(devices, ((0, 1),)), tuple((k, 1) for k in range(9)))

    def test_order_of_devices(self):
        # In one round, what is made known by an earlier device is known to a later one.
        devices = (("pass", 1, (0,)), ("pass", 2, (1,)), ("not", 2, (0,)))
        self.assertEqual(run(devices, ((0, 1),)), ((0, 1), (1, 1), (2, 1)))
        self.assertEqual(run(devices[1:] + devices[:1], ((0, 1),)), ((0, 1), (1, 1), (2, 0)))

    def test_random(self):
        source = Random(128)
        for _ in range(500):
            devices = plain.random_devices(source, source.randint(0, 8), source.randint(1, 13))
            known = tuple((source.randrange(13), source.randrange(2)) for _ in range(source.randint(0, 13)))
            self.assertEqual(run(devices, known), plain.plain_run(devices, known), (devices, known))


class Drivers(FloorCase):
    """Point 58."""

    def test_known_ones(self):
        self.assertEqual(drivers(()), ((), ()))
        self.assertEqual(drivers((ONE,)), ((0, 1), ()))
        self.assertEqual(drivers((ONE, ("not", 2, (5,)), ("not", 0, (2,)))), ((1, 5), (2,)))
        self.assertEqual(drivers((("not", 9, (9,)), ("or", 9, (3, 1)), ("or", 3, (12, 9)), ("or", 3, (1,)))),
                         ((1, 12), (3, 9)))

    def test_random(self):
        source = Random(129)
        for _ in range(200):
            devices = plain.random_devices(source, source.randint(0, 8), source.randint(1, 13))
            nets = plain.nets_of(devices)
            self.assertEqual(drivers(devices), (tuple(net for net in nets if plain.driven(devices, net) == 0),
                                                tuple(net for net in nets if plain.driven(devices, net) >= 2)), devices)


if __name__ == "__main__":
    unittest.main()
