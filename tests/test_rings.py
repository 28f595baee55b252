"""Promises 12 and 13, and promise 2 as far as it speaks of them: waithouse/rings.py."""

import itertools
import random

from samples import BIG, DRAWN, KEPT, LINE, LINE_SUM, SMALL, TORN, Case, asked, shortest_sums
from waithouse.rings import chain, ring


class Ring(Case):
    def test_none_where_a_schedule_keeps_all(self):
        self.assertIs(ring(1, []), None)
        self.assertIs(ring(8, []), None)
        self.assertIs(ring(1, [(0, 0, 0)]), None)
        self.assertIs(ring(count=2, bounds=[(0, 1, 3), (1, 0, -3)]), None)
        self.assertIs(ring(3, [(0, 1, BIG), (1, 2, BIG), (2, 0, -2 * BIG)]), None)
        self.assertIs(ring(8, LINE + [(7, 0, -LINE_SUM)]), None)

    def test_of_two_bounds(self):
        self.assertIn(ring(2, [(0, 1, 3), (1, 0, -4)]), ([0, 1], [1, 0]))
        bounds = [(0, 1, 9), (1, 2, 0), (0, 1, 3), (2, 2, 1), (1, 0, -4)]
        self.assertIn(ring(count=3, bounds=bounds), ([2, 4], [4, 2]))

    def test_of_one_bound_from_a_point_to_itself(self):
        self.assertEqual(ring(1, [(0, 0, -1)]), [0])
        self.assertEqual(ring(1, [(0, 0, 0), (0, 0, 5), (0, 0, -BIG), (0, 0, 2)]), [2])
        self.assertEqual(ring(8, LINE + [(4, 4, 0), (4, 4, -1)]), [8])
        self.assertEqual(ring(3, [(0, 1, 5), (1, 1, -1), (1, 0, 5)]), [1])

    def test_bounds_from_a_point_to_itself_within_a_ring_are_left_out(self):
        bounds = [(0, 0, 0), (0, 1, 3), (1, 1, 0), (1, 0, -4), (0, 0, 0)]
        self.assertIn(ring(2, bounds), ([1, 3], [3, 1]))

    def test_over_all_eight_points(self):
        draw = random.Random(2)
        bounds = LINE + [(7, 0, -LINE_SUM - 1)]
        for k in range(60):
            told = asked(ring, 8, bounds)
            self.assert_ring(8, bounds, told)
            self.assertEqual(sorted(told), list(range(8)))
            draw.shuffle(bounds)

    def test_over_all_points_of_fewer(self):
        for count in range(2, 8):
            bounds = [(k, (k + 1) % count, 1) for k in range(count - 1)] + [(count - 1, 0, -count)]
            for turned in range(count):
                mixed = bounds[turned:] + bounds[:turned]
                told = ring(count, mixed)
                self.assert_ring(count, mixed, told)
                self.assertEqual(len(told), count)

    def test_several_rings(self):
        # Two rings that share a point: a walk through both would begin there twice.
        bounds = [(0, 1, 1), (1, 0, -3), (0, 2, 1), (2, 0, -3)]
        for mixed in itertools.permutations(bounds):
            self.assert_ring(3, list(mixed), ring(3, list(mixed)))

    def test_ring_that_hangs_on_a_round_that_can_be(self):
        # The round 1, 2 comes to more than 0, and lies beside the ring 0, 1.
        bounds = [(0, 1, 1), (1, 2, 1), (2, 1, 0), (1, 0, -2)]
        for mixed in itertools.permutations(bounds):
            told = ring(3, list(mixed))
            self.assert_ring(3, list(mixed), told)
            self.assertEqual(len(told), 2)

    def test_rounds_of_sum_0(self):
        # Rounds that come to 0 must not make a ring longer than it may be.
        bounds = [(0, 1, 2), (1, 0, -2), (1, 2, 2), (2, 1, -2), (0, 2, 4), (2, 0, -4), (0, 0, 0)]
        self.assertIs(ring(3, bounds), None)
        for a, b in itertools.permutations(range(3), 2):
            torn = bounds + [(a, b, (b - a) * 2 - 1)]
            for mixed in (torn, torn[::-1], torn[3:] + torn[:3]):
                self.assert_ring(3, mixed, ring(3, mixed))

    def test_numbers_far_beyond_64_bits(self):
        bounds = [(0, 1, BIG), (1, 2, BIG), (2, 0, -2 * BIG - 1)]
        self.assert_ring(3, bounds, ring(3, bounds))
        self.assertIs(ring(2, [(0, 1, 2 ** 64 + 1), (1, 0, -2 ** 64)]), None)
        self.assertIn(ring(2, [(0, 1, 2 ** 64), (1, 0, -2 ** 64 - 1)]), ([0, 1], [1, 0]))

    def test_of_small_lists(self):
        for bounds in SMALL:
            told = asked(ring, 3, bounds)
            if shortest_sums(3, bounds) is None:
                self.assert_ring(3, bounds, told)
            else:
                self.assertIs(told, None)

    def test_of_drawn_lists(self):
        for count, bounds in KEPT:
            self.assertIs(asked(ring, count, bounds), None)
        for count, bounds in TORN:
            self.assert_ring(count, bounds, asked(ring, count, bounds))

    def test_told_list_is_new(self):
        for count, bounds in ((2, [(0, 1, 3), (1, 0, -4)]), (1, [(0, 0, -1)])):
            self.assert_own(ring, count, list(bounds))
            self.assert_stays(ring, count, list(bounds))


class Chain(Case):
    def assert_chains(self, count, bounds):
        """Each chain of a list, against the sums of shortest chains."""
        table = shortest_sums(count, bounds)
        for a, b in itertools.product(range(count), repeat=2):
            told = asked(chain, count, bounds, a, b)
            if table is None or table[a][b] is None:
                self.assertIs(told, None)
            elif a == b:
                self.assertEqual(told, [])
                self.assertIs(type(told), list)
            else:
                self.assert_chain(count, bounds, a, b, told, table[a][b])

    def test_ordinary(self):
        bounds = [(0, 1, 8), (1, 0, -3), (1, 2, 4), (2, 1, -1)]
        self.assertEqual(chain(3, bounds, 0, 1), [0])
        self.assertEqual(chain(3, bounds, 0, 2), [0, 2])
        self.assertEqual(chain(count=3, bounds=bounds, a=2, b=0), [3, 1])

    def test_least_of_several_bounds(self):
        bounds = [(0, 1, 5), (0, 1, 2), (0, 1, 9)]
        self.assertEqual(chain(2, bounds, 0, 1), [1])
        self.assertIn(chain(2, bounds + [(0, 1, 2)], 0, 1), ([1], [3]))

    def test_by_way_of_others_and_straight(self):
        ways = [(0, 1, 4), (1, 2, 5)]
        self.assertEqual(chain(3, [(0, 2, 10)] + ways, 0, 2), [1, 2])
        self.assertEqual(chain(3, ways + [(0, 2, 8)], 0, 2), [2])
        self.assertIn(chain(3, ways + [(0, 2, 9)], 0, 2), ([0, 1], [2]))

    def test_over_all_points(self):
        self.assertEqual(chain(8, LINE, 0, 7), [0, 1, 2, 3, 4, 5, 6])
        self.assertEqual(chain(8, LINE[::-1], 0, 7), [6, 5, 4, 3, 2, 1, 0])
        for bounds in (LINE, LINE[::-1], LINE[::2] + LINE[1::2], LINE + [(7, 0, -LINE_SUM)]):
            self.assert_chains(8, bounds)

    def test_none_where_the_entry_is_none(self):
        self.assertIs(chain(2, [], 0, 1), None)
        self.assertIs(chain(2, [(0, 1, 3)], 1, 0), None)
        self.assertIs(chain(8, LINE, 7, 0), None)

    def test_none_wherever_the_table_is_empty(self):
        bounds = [(0, 1, 3), (1, 0, -4), (1, 2, 1)]
        for a, b in itertools.product(range(4), repeat=2):
            self.assertIs(asked(chain, 4, bounds, a, b), None)
        self.assertIs(chain(1, [(0, 0, -1)], 0, 0), None)

    def test_from_a_point_to_itself(self):
        for count, bounds in ((1, []), (1, [(0, 0, 0)]), (8, LINE), (2, [(0, 1, 3), (1, 0, -3)])):
            for x in range(count):
                self.assertEqual(asked(chain, count, bounds, x, x), [])

    def test_rounds_of_sum_0(self):
        # Rounds that come to 0 must not make a chain longer than it may be.
        bounds = [(0, 1, 2), (1, 0, -2), (1, 1, 0), (1, 2, 2), (2, 1, -2), (2, 3, 0), (3, 2, 0), (0, 0, 0)]
        draw = random.Random(4)
        for k in range(40):
            self.assert_chains(4, bounds)
            draw.shuffle(bounds)

    def test_of_small_lists(self):
        for bounds in SMALL:
            self.assert_chains(3, bounds)

    def test_of_drawn_lists(self):
        for count, bounds in DRAWN[::3]:
            self.assert_chains(count, bounds)

    def test_told_list_is_new(self):
        for count, bounds, a, b in ((8, LINE, 0, 7), (8, LINE, 3, 3), (1, [], 0, 0), (2, [(0, 1, 5)], 0, 1)):
            self.assert_own(chain, count, list(bounds), a, b)
            self.assert_stays(chain, count, list(bounds), a, b)
