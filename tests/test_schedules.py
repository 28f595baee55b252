"""Promises 4 to 8 as far as they speak of schedules: waithouse/schedules.py, and what ties it to bounds.py."""

import itertools
import unittest

from waithouse.bounds import against, bounds_of, chained, linked
from waithouse.schedules import keeps, keeps_gap, later, moved, sooner, time_from

# 300 figures, the most that is handed in; too great for 64 bits and for a float.
BIG = 10 ** 300 - 1
EIGHT = (5, -3, 0, 17, 5, 2 ** 70, -2 ** 70, 1)
# Every schedule of three points with small times, and every bound and gap that tells them apart.
SCHEDULES = list(itertools.product((-1, 0, 2), repeat=3))
BOUNDS = list(itertools.product(range(3), range(3), range(-4, 5)))
ENDS = (None, -3, -1, 0, 1, 3)


class TimeFrom(unittest.TestCase):
    def test_time_of_b_less_that_of_a(self):
        self.assertEqual(time_from((3, 10), 0, 1), 7)
        self.assertEqual(time_from((3, 10), 1, 0), -7)
        self.assertEqual(time_from((3, 10), 1, 1), 0)
        self.assertEqual(time_from((-BIG, BIG), 0, 1), 2 * BIG)


class Keeps(unittest.TestCase):
    def test_below_at_and_just_above(self):
        times = (3, 10)
        self.assertIs(keeps(times, (0, 1, 100)), True)
        self.assertIs(keeps(times, (0, 1, 8)), True)
        self.assertIs(keeps(times, (0, 1, 7)), True)
        self.assertIs(keeps(times, (0, 1, 6)), False)
        self.assertIs(keeps(times, (0, 1, -7)), False)

    def test_the_other_way_round(self):
        times = (3, 10)
        self.assertIs(keeps(times, (1, 0, 0)), True)
        self.assertIs(keeps(times, (1, 0, -6)), True)
        self.assertIs(keeps(times, (1, 0, -7)), True)
        self.assertIs(keeps(times=times, bound=(1, 0, -8)), False)

    def test_point_to_itself(self):
        for times in ((4,), (0, 4), (-BIG, BIG)):
            x = len(times) - 1
            with self.subTest(points=len(times)):
                self.assertIs(keeps(times, (x, x, 1)), True)
                self.assertIs(keeps(times, (x, x, 0)), True)
                self.assertIs(keeps(times, (x, x, -1)), False)

    def test_each_two_of_eight_points(self):
        for a, b in itertools.product(range(8), repeat=2):
            time = EIGHT[b] - EIGHT[a]
            with self.subTest(a=a, b=b):
                self.assertIs(keeps(EIGHT, (a, b, time + 1)), True)
                self.assertIs(keeps(EIGHT, (a, b, time)), True)
                self.assertIs(keeps(EIGHT, (a, b, time - 1)), False)

    def test_great_numbers(self):
        self.assertIs(keeps((0, BIG), (0, 1, BIG)), True)
        self.assertIs(keeps((0, BIG), (0, 1, BIG - 1)), False)
        self.assertIs(keeps((0, BIG), (1, 0, -BIG)), True)
        self.assertIs(keeps((0, BIG), (1, 0, -BIG - 1)), False)
        self.assertIs(keeps((-BIG, BIG), (0, 1, 2 * BIG)), True)
        self.assertIs(keeps((-BIG, BIG), (0, 1, 2 * BIG - 1)), False)
        self.assertIs(keeps((BIG, BIG + 1), (0, 1, 0)), False)
        self.assertIs(keeps((2 ** 63, 2 ** 63 + 1), (0, 1, 0)), False)

    def test_against_is_kept_just_where_the_bound_is_not(self):
        for times, bound in itertools.product(SCHEDULES, BOUNDS):
            if keeps(times, bound) == keeps(times, against(bound)):
                self.fail((times, bound))

    def test_against_with_great_numbers(self):
        for c in (BIG - 1, BIG, BIG + 1):
            for times, number in (((0, BIG), c), ((0, -BIG), -c)):
                bound = (0, 1, number)
                self.assertIs(keeps(times, against(bound)), not keeps(times, bound))


class Chains(unittest.TestCase):
    def test_who_keeps_both_keeps_what_they_come_to(self):
        for one, d, e in itertools.product(BOUNDS, range(3), range(-4, 5)):
            other = (one[1], d, e)
            both = linked(one, other)
            for times in SCHEDULES:
                if keeps(times, one) and keeps(times, other) and not keeps(times, both):
                    self.fail((times, one, other))

    def test_what_a_tight_chain_comes_to_is_kept_at_its_very_number(self):
        path = [0, 3, 5, 1, 1, 6, 2, 7, 0, 4]
        bounds = [(a, b, EIGHT[b] - EIGHT[a]) for a, b in zip(path, path[1:])]
        a, b, c = chained(bounds)
        self.assertIs(keeps(EIGHT, (a, b, c)), True)
        self.assertIs(keeps(EIGHT, (a, b, c - 1)), False)


class KeepsGap(unittest.TestCase):
    def kept_from_time_to_time(self, gap):
        return [time for time in range(-5, 15) if keeps_gap((100, 100 + time), gap)]

    def test_both_ends(self):
        self.assertEqual(self.kept_from_time_to_time((0, 1, 3, 8)), list(range(3, 9)))
        self.assertEqual(self.kept_from_time_to_time((0, 1, 4, 4)), [4])
        self.assertEqual(self.kept_from_time_to_time((0, 1, -2, 0)), [-2, -1, 0])
        self.assertEqual(self.kept_from_time_to_time((1, 0, -4, -2)), [2, 3, 4])

    def test_high_alone(self):
        self.assertEqual(self.kept_from_time_to_time((0, 1, None, 8)), list(range(-5, 9)))
        self.assertEqual(self.kept_from_time_to_time((0, 1, None, 0)), list(range(-5, 1)))

    def test_low_alone(self):
        self.assertEqual(self.kept_from_time_to_time((0, 1, 3, None)), list(range(3, 15)))
        self.assertEqual(self.kept_from_time_to_time((0, 1, 0, None)), list(range(0, 15)))

    def test_no_end(self):
        self.assertEqual(self.kept_from_time_to_time((0, 1, None, None)), list(range(-5, 15)))

    def test_low_above_high(self):
        self.assertEqual(self.kept_from_time_to_time((0, 1, 8, 3)), [])
        self.assertEqual(self.kept_from_time_to_time((0, 1, 5, 4)), [])

    def test_tells_true_or_false(self):
        for low, high in itertools.product(ENDS, repeat=2):
            for times in ((0, 0), (0, 2), (2, 0)):
                with self.subTest(low=low, high=high, times=times):
                    self.assertIs(type(keeps_gap(times=times, gap=(0, 1, low, high))), bool)

    def test_point_to_itself(self):
        for low, high in itertools.product(ENDS, repeat=2):
            wanted = (low is None or low <= 0) and (high is None or high >= 0)
            for times in ((7, 3), (-BIG, BIG)):
                with self.subTest(low=low, high=high):
                    self.assertIs(keeps_gap(times, (0, 0, low, high)), wanted)
                    self.assertIs(keeps_gap(times, (1, 1, low, high)), wanted)

    def test_great_numbers(self):
        times = (-BIG, BIG)
        whole = 2 * BIG
        self.assertIs(keeps_gap(times, (0, 1, whole, whole)), True)
        self.assertIs(keeps_gap(times, (0, 1, whole + 1, None)), False)
        self.assertIs(keeps_gap(times, (0, 1, None, whole - 1)), False)
        self.assertIs(keeps_gap(times, (1, 0, -whole, -whole)), True)
        self.assertIs(keeps_gap(times, (1, 0, 1 - whole, None)), False)
        self.assertIs(keeps_gap(times, (1, 0, None, -whole - 1)), False)

    def test_kept_just_where_all_its_bounds_are(self):
        gaps = list(itertools.product(range(3), range(3), ENDS, ENDS))
        for times, gap in itertools.product(SCHEDULES, gaps):
            if keeps_gap(times, gap) != all(keeps(times, bound) for bound in bounds_of(gap)):
                self.fail((times, gap))


class ScheduleCase(unittest.TestCase):
    def assert_schedule(self, told, wanted):
        self.assertEqual(told, wanted)
        self.assertIs(type(told), tuple)
        for time in told:
            self.assertIs(type(time), int)


class Moved(ScheduleCase):
    def test_by_a_number(self):
        self.assert_schedule(moved((3, -10, 0), 5), (8, -5, 5))
        self.assert_schedule(moved(times=(3,), number=1), (4,))

    def test_by_0(self):
        self.assert_schedule(moved((3, -10, 0), 0), (3, -10, 0))

    def test_by_a_number_below_0(self):
        self.assert_schedule(moved((3, -10, 0), -4), (-1, -14, -4))

    def test_by_great_numbers(self):
        self.assert_schedule(moved((1, -BIG, BIG), BIG), (BIG + 1, 0, 2 * BIG))
        self.assert_schedule(moved((1, -BIG, BIG), -BIG), (1 - BIG, -2 * BIG, 0))

    def test_eight_points(self):
        self.assert_schedule(moved(EIGHT, 2), (7, -1, 2, 19, 7, 2 ** 70 + 2, 2 - 2 ** 70, 3))

    def test_keeps_the_same_bounds(self):
        for times, number in itertools.product(SCHEDULES, (-BIG, -3, 0, 1, BIG)):
            other = moved(times, number)
            if [keeps(times, bound) for bound in BOUNDS] != [keeps(other, bound) for bound in BOUNDS]:
                self.fail((times, other))


class SoonerAndLater(ScheduleCase):
    def test_ordinary_either_way_round(self):
        one = (3, -10, 0, 4)
        other = (5, -12, 0, -4)
        for first, second in ((one, other), (other, one)):
            self.assert_schedule(sooner(first, second), (3, -12, 0, -4))
            self.assert_schedule(later(first, second), (5, -10, 0, 4))
        self.assert_schedule(sooner(one=one, other=other), (3, -12, 0, -4))
        self.assert_schedule(later(one=one, other=other), (5, -10, 0, 4))

    def test_one_below_the_other_everywhere(self):
        # Each point for itself, so neither schedule is mixed in where it is not the lesser one.
        for first, second in (((1, 2, 3), (4, 5, 6)), ((4, 5, 6), (1, 2, 3))):
            self.assert_schedule(sooner(first, second), (1, 2, 3))
            self.assert_schedule(later(first, second), (4, 5, 6))

    def test_of_a_schedule_and_itself(self):
        self.assert_schedule(sooner(EIGHT, EIGHT), EIGHT)
        self.assert_schedule(later(EIGHT, EIGHT), EIGHT)

    def test_one_point(self):
        self.assert_schedule(sooner((2,), (-2,)), (-2,))
        self.assert_schedule(later((2,), (-2,)), (2,))

    def test_eight_points(self):
        other = tuple(reversed(EIGHT))
        self.assert_schedule(sooner(EIGHT, other), (1, -2 ** 70, 0, 5, 5, 0, -2 ** 70, 1))
        self.assert_schedule(later(EIGHT, other), (5, -3, 2 ** 70, 17, 17, 2 ** 70, -3, 5))

    def test_great_numbers(self):
        self.assert_schedule(sooner((BIG, -BIG), (BIG - 1, -BIG - 1)), (BIG - 1, -BIG - 1))
        self.assert_schedule(later((BIG, -BIG), (BIG + 1, 1 - BIG)), (BIG + 1, 1 - BIG))

    def test_keep_each_bound_that_both_keep(self):
        for one, other in itertools.product(SCHEDULES, repeat=2):
            low = sooner(one, other)
            high = later(one, other)
            for bound in BOUNDS:
                if keeps(one, bound) and keeps(other, bound):
                    if not (keeps(low, bound) and keeps(high, bound)):
                        self.fail((one, other, bound))


if __name__ == "__main__":
    unittest.main()
