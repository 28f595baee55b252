"""Promises 5, 6 and 7 as far as they speak of bounds and gaps alone: waithouse/bounds.py."""

import itertools
import unittest

from waithouse.bounds import against, bounds_of, chained, linked
from waithouse.errors import NoLink, WaitError

# 300 figures, the most that is handed in; too great for 64 bits and for a float.
BIG = 10 ** 300 - 1
NUMBERS = (-BIG, -2 ** 64, -7, -1, 0, 1, 7, 2 ** 64, BIG)


class BoundCase(unittest.TestCase):
    def assert_bound(self, told, wanted):
        self.assertEqual(told, wanted)
        self.assertIs(type(told), tuple)
        for part in told:
            self.assertIs(type(part), int)


class Against(BoundCase):
    def test_ordinary(self):
        self.assert_bound(against((0, 1, 5)), (1, 0, -6))
        self.assert_bound(against((4, 2, -5)), (2, 4, 4))
        self.assert_bound(against(bound=(7, 0, 0)), (0, 7, -1))

    def test_point_to_itself(self):
        self.assert_bound(against((3, 3, 0)), (3, 3, -1))
        self.assert_bound(against((3, 3, -1)), (3, 3, 0))

    def test_great_numbers(self):
        self.assert_bound(against((0, 1, BIG)), (1, 0, -BIG - 1))
        self.assert_bound(against((0, 1, -BIG)), (1, 0, BIG - 1))

    def test_against_twice_is_the_bound(self):
        for a, b, c in itertools.product(range(3), range(3), NUMBERS):
            with self.subTest(a=a, b=b):
                self.assert_bound(against(against((a, b, c))), (a, b, c))


class Linked(BoundCase):
    def test_ordinary(self):
        self.assert_bound(linked((0, 1, 5), (1, 2, 3)), (0, 2, 8))
        self.assert_bound(linked((5, 4, -5), (4, 7, 3)), (5, 7, -2))
        self.assert_bound(linked(one=(1, 2, 4), other=(2, 1, -9)), (1, 1, -5))

    def test_with_points_to_themselves(self):
        self.assert_bound(linked((2, 2, 1), (2, 2, 1)), (2, 2, 2))
        self.assert_bound(linked((2, 2, -4), (2, 3, 1)), (2, 3, -3))
        self.assert_bound(linked((3, 2, -4), (2, 2, 1)), (3, 2, -3))

    def test_great_numbers(self):
        self.assert_bound(linked((0, 1, BIG), (1, 2, BIG)), (0, 2, 2 * BIG))
        self.assert_bound(linked((0, 1, BIG), (1, 2, 1 - BIG)), (0, 2, 1))
        self.assert_bound(linked((0, 1, -BIG), (1, 2, -1)), (0, 2, -BIG - 1))

    def test_links_just_where_the_second_begins_at_the_firsts_end(self):
        for a, b, c, d in itertools.product(range(4), repeat=4):
            with self.subTest(one=(a, b), other=(c, d)):
                if b == c:
                    self.assert_bound(linked((a, b, 10), (c, d, 4)), (a, d, 14))
                else:
                    with self.assertRaises(NoLink):
                        linked((a, b, 10), (c, d, 4))

    def test_refusal_with_great_numbers(self):
        # Told numbers may have some thousand figures when they are handed in again.
        great = 10 ** 3999
        with self.assertRaises(NoLink):
            linked((0, 1, great), (2, 3, -great))

    def test_refusal_is_a_wait_error_and_a_value_error(self):
        for base in (WaitError, ValueError):
            with self.assertRaises(base):
                linked((0, 1, 5), (0, 2, 3))


class Chained(BoundCase):
    LONG = [(0, 1, 5), (1, 3, -2), (3, 3, 1), (3, 2, 10), (2, 0, -20)]

    def test_one_alone_comes_to_itself(self):
        for bound in ((0, 1, 5), (2, 2, -3), (7, 0, BIG), (0, 0, 0)):
            with self.subTest(points=bound[:2]):
                self.assert_bound(chained([bound]), bound)

    def test_two(self):
        self.assert_bound(chained([(0, 1, 5), (1, 2, 3)]), (0, 2, 8))
        self.assert_bound(chained(bounds=[(0, 1, 5), (1, 0, -6)]), (0, 0, -1))

    def test_more(self):
        self.assert_bound(chained(self.LONG[:3]), (0, 3, 4))
        self.assert_bound(chained(self.LONG[:4]), (0, 2, 14))
        self.assert_bound(chained(self.LONG), (0, 0, -6))

    def test_as_many_as_may_be_handed_in_and_more(self):
        for much in (120, 3000):
            with self.subTest(much=much):
                bounds = [(k % 8, (k + 1) % 8, k) for k in range(much)]
                self.assert_bound(chained(bounds), (0, much % 8, much * (much - 1) // 2))

    def test_great_numbers(self):
        self.assert_bound(chained([(0, 1, BIG), (1, 2, BIG), (2, 3, 1), (3, 4, -BIG)]), (0, 4, BIG + 1))

    def test_no_bounds(self):
        with self.assertRaises(NoLink):
            chained([])

    def test_broken_at_each_place(self):
        # Whichever bound begins elsewhere: the second (the first link), a middle one, the last one.
        for place in range(1, len(self.LONG)):
            broken = list(self.LONG)
            a, b, c = broken[place]
            broken[place] = ((a + 1) % 4, b, c)
            with self.subTest(place=place), self.assertRaises(NoLink):
                chained(broken)

    def test_broken_by_the_first_end(self):
        with self.assertRaises(NoLink):
            chained([(0, 2, 5)] + self.LONG[1:])

    def test_links_are_asked_in_the_lists_order_alone(self):
        with self.assertRaises(NoLink):
            chained([(1, 2, 3), (0, 1, 5)])
        with self.assertRaises(NoLink):
            chained([(0, 1, 5), (2, 3, 1), (1, 2, 3)])

    def test_all_lists_of_three(self):
        pairs = list(itertools.product(range(3), repeat=2))
        for one, two, three in itertools.product(pairs, repeat=3):
            bounds = [one + (1,), two + (10,), three + (100,)]
            with self.subTest(bounds=bounds):
                if one[1] == two[0] and two[1] == three[0]:
                    self.assert_bound(chained(bounds), (one[0], three[1], 111))
                else:
                    with self.assertRaises(NoLink):
                        chained(bounds)

    def test_list_handed_in_stays(self):
        handed = list(self.LONG)
        told = chained(handed)
        self.assertEqual(handed, self.LONG)
        handed.clear()
        self.assert_bound(told, (0, 0, -6))

    def test_refused_list_stays(self):
        broken = self.LONG[:2] + self.LONG[3:4] + self.LONG[:1]
        handed = list(broken)
        with self.assertRaises(NoLink):
            chained(handed)
        self.assertEqual(handed, broken)

    def test_changed_list_is_asked_anew(self):
        handed = [(0, 1, 5), (1, 2, 3)]
        chained(handed)
        handed[1] = (1, 3, 4)
        self.assert_bound(chained(handed), (0, 3, 9))
        handed.clear()
        with self.assertRaises(NoLink):
            chained(handed)

    def test_refusal_is_a_wait_error_and_a_value_error(self):
        for base in (WaitError, ValueError):
            for bounds in ([], [(0, 1, 5), (0, 1, 5)]):
                with self.subTest(base=base, bounds=bounds), self.assertRaises(base):
                    chained(bounds)


class BoundsOf(BoundCase):
    def assert_bounds(self, told, wanted):
        self.assertEqual(told, wanted)
        self.assertIs(type(told), list)
        for one, other in zip(told, wanted):
            self.assert_bound(one, other)

    def test_both_ends_high_first(self):
        self.assert_bounds(bounds_of((0, 1, 3, 8)), [(0, 1, 8), (1, 0, -3)])
        self.assert_bounds(bounds_of(gap=(6, 2, -8, -3)), [(6, 2, -3), (2, 6, 8)])

    def test_high_alone(self):
        self.assert_bounds(bounds_of((0, 1, None, 8)), [(0, 1, 8)])
        self.assert_bounds(bounds_of((0, 1, None, -8)), [(0, 1, -8)])

    def test_low_alone(self):
        self.assert_bounds(bounds_of((0, 1, 3, None)), [(1, 0, -3)])
        self.assert_bounds(bounds_of((0, 1, -3, None)), [(1, 0, 3)])

    def test_no_end(self):
        self.assert_bounds(bounds_of((0, 1, None, None)), [])
        self.assert_bounds(bounds_of((1, 1, None, None)), [])

    def test_end_0_is_an_end(self):
        self.assert_bounds(bounds_of((0, 1, 0, 0)), [(0, 1, 0), (1, 0, 0)])
        self.assert_bounds(bounds_of((0, 1, 0, None)), [(1, 0, 0)])
        self.assert_bounds(bounds_of((0, 1, None, 0)), [(0, 1, 0)])

    def test_low_above_high(self):
        self.assert_bounds(bounds_of((0, 1, 8, 3)), [(0, 1, 3), (1, 0, -8)])

    def test_point_to_itself(self):
        self.assert_bounds(bounds_of((2, 2, -1, 4)), [(2, 2, 4), (2, 2, 1)])
        self.assert_bounds(bounds_of((2, 2, 1, 1)), [(2, 2, 1), (2, 2, -1)])

    def test_great_numbers(self):
        self.assert_bounds(bounds_of((0, 1, -BIG, BIG)), [(0, 1, BIG), (1, 0, BIG)])
        self.assert_bounds(bounds_of((0, 1, BIG - 1, BIG)), [(0, 1, BIG), (1, 0, 1 - BIG)])

    def test_told_list_is_the_askers_own(self):
        for gap in ((0, 1, 3, 8), (0, 1, None, 8), (0, 1, 3, None), (0, 1, None, None)):
            with self.subTest(gap=gap):
                wanted = list(bounds_of(gap))
                first = bounds_of(gap)
                second = bounds_of(gap)
                first.append((5, 5, 5))
                first.reverse()
                self.assert_bounds(second, wanted)
                self.assert_bounds(bounds_of(gap), wanted)
                second.clear()
                self.assert_bounds(bounds_of(gap), wanted)


if __name__ == "__main__":
    unittest.main()
