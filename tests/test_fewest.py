"""Promises 25 and 26, and promise 2 as far as it speaks of them: waithouse/fewest.py."""

import itertools
import random

from samples import BIG, DRAWN, KEPT, LINE, LINE_SUM, SMALL, TORN, WINDOW, Case, asked, keeps_all, shortest_sums
from waithouse.fewest import alone, fewest

# Point 1 comes 3 to 8 behind point 0, point 2 1 to 4 behind point 1, and so 4 to 12 behind point 0.
BOUNDS = [(0, 1, 8), (1, 0, -3), (1, 2, 4), (2, 1, -1), (0, 2, 12), (2, 0, -4)]


def without(bounds, place):
    return bounds[:place] + bounds[place + 1:]


def told_by(count, others, bound):
    """Whether every schedule that keeps the others keeps the bound, so also where none keeps the others."""
    sums = shortest_sums(count, others)
    a, b, c = bound
    return sums is None or sums[a][b] is not None and sums[a][b] <= c


def left_by_the_rule(count, bounds):
    """The places that are left, by the very words of 26."""
    out = set()
    for place, bound in enumerate(bounds):
        others = [bounds[other] for other in range(len(bounds)) if other != place and other not in out]
        if told_by(count, others, bound):
            out.add(place)
    return [place for place in range(len(bounds)) if place not in out]


def in_order(bounds, places):
    """The places in an order in which each bound begins where the one ahead ends, as far as there is one."""
    rest = list(places)
    order = [rest.pop(0)]
    while rest:
        following = [place for place in rest if bounds[place][0] == bounds[order[-1]][1]]
        if not following:
            return order
        order.append(following[0])
        rest.remove(following[0])
    return order


class FewestCase(Case):
    def assert_breaks(self, told, bounds, place, count):
        """A schedule that keeps all other bounds, and not the one at the place."""
        self.assert_schedule(told, count)
        self.assertTrue(keeps_all(told, without(bounds, place)))
        self.assertFalse(keeps_all(told, [bounds[place]]))

    def assert_alone(self, count, bounds):
        """Each place of the list, against the sums of shortest chains; tells at how many a schedule is told."""
        much = 0
        for place, bound in enumerate(bounds):
            told = asked(alone, count, bounds, place)
            if told_by(count, without(bounds, place), bound):
                self.assertIs(told, None)
            else:
                much += 1
                self.assert_breaks(told, bounds, place, count)
        return much

    def assert_fewest(self, count, bounds):
        """The places that are left, against the rule and what comes of it."""
        told = asked(fewest, count, bounds)
        self.assertIs(type(told), list)
        for place in told:
            self.assert_whole(place)
        self.assertEqual(told, sorted(set(told)))
        self.assertEqual(told, left_by_the_rule(count, bounds))
        left = [bounds[place] for place in told]
        self.assertEqual(shortest_sums(count, left), shortest_sums(count, bounds))
        for place in range(len(left)):
            self.assert_breaks(alone(count, left, place), left, place, count)
        if shortest_sums(count, bounds) is None:
            order = in_order(bounds, told)
            self.assertEqual(sorted(order), told)
            self.assert_ring(count, bounds, order)
        return told


class Alone(FewestCase):
    def test_not_told_by_the_others(self):
        for place in range(4):
            self.assert_breaks(asked(alone, 3, BOUNDS[:4], place), BOUNDS[:4], place, 3)
        self.assert_breaks(alone(count=2, bounds=[(0, 1, 5)], place=0), [(0, 1, 5)], 0, 2)
        self.assert_breaks(alone(2, [(0, 1, 5), (1, 0, 5)], 1), [(0, 1, 5), (1, 0, 5)], 1, 2)
        bounds = BOUNDS[:4] + [(0, 2, 11)]
        self.assert_breaks(alone(3, bounds, 4), bounds, 4, 3)

    def test_told_by_the_others(self):
        self.assertIs(asked(alone, 3, BOUNDS, 4), None)
        self.assertIs(asked(alone, 3, BOUNDS, 5), None)
        self.assertIs(asked(alone, 2, [(0, 1, 5), (0, 1, 6)], 1), None)
        self.assertIs(asked(alone, 2, [(0, 1, 6), (0, 1, 5)], 0), None)
        self.assertIs(alone(3, BOUNDS[:4] + [(0, 2, 13)], 4), None)

    def test_from_a_point_to_itself(self):
        self.assertIs(asked(alone, 1, [(0, 0, 0)], 0), None)
        self.assertIs(asked(alone, 1, [(0, 0, BIG)], 0), None)
        self.assert_breaks(asked(alone, 1, [(0, 0, -1)], 0), [(0, 0, -1)], 0, 1)
        self.assert_breaks(asked(alone, 2, [(0, 1, 5), (1, 1, -1)], 1), [(0, 1, 5), (1, 1, -1)], 1, 2)
        self.assertIs(alone(1, [(0, 0, -1), (0, 0, -1)], 0), None)

    def test_the_same_bound_twice(self):
        bounds = [(0, 1, 5), (1, 0, -3), (0, 1, 5)]
        self.assertIs(asked(alone, 2, bounds, 0), None)
        self.assertIs(asked(alone, 2, bounds, 2), None)
        self.assert_breaks(asked(alone, 2, bounds, 1), bounds, 1, 2)

    def test_nobody_keeps_the_list_but_the_others(self):
        bounds = BOUNDS[:4] + [(0, 2, 3)]
        for place in (1, 3, 4):
            self.assert_breaks(asked(alone, 3, bounds, place), bounds, place, 3)
        for place in (0, 2):
            self.assertIs(asked(alone, 3, bounds, place), None)

    def test_nobody_keeps_the_others_either(self):
        bounds = [(0, 1, 3), (1, 0, -4), (0, 1, 9), (2, 2, -1)]
        for place in (0, 1, 2):
            self.assertIs(asked(alone, 3, bounds, place), None)
        self.assertIs(asked(alone, 3, bounds, 3), None)
        self.assertIs(alone(2, [(0, 1, 3), (1, 0, -4), (0, 0, -1)], 0), None)

    def test_first_and_last_place(self):
        bounds = LINE + [(0, 7, LINE_SUM - 1)]
        for place in range(8):
            self.assert_breaks(asked(alone, 8, bounds, place), bounds, place, 8)
        bounds = LINE + [(0, 7, LINE_SUM)]
        self.assertIs(asked(alone, 8, bounds, 7), None)
        self.assertIs(asked(alone, 8, bounds[7:] + bounds[:7], 0), None)

    def test_great_numbers(self):
        bounds = [(0, 1, BIG), (1, 2, BIG), (0, 2, 2 * BIG)]
        self.assertIs(asked(alone, 3, bounds, 2), None)
        bounds[2] = (0, 2, 2 * BIG - 1)
        self.assert_breaks(asked(alone, 3, bounds, 2), bounds, 2, 3)

    def test_as_the_window_shows(self):
        for bounds in SMALL[::3]:
            for place in range(len(bounds)):
                others = without(bounds, place)
                there = any(keeps_all(times, others) and not keeps_all(times, [bounds[place]]) for times in WINDOW)
                self.assertIs(alone(3, bounds, place) is not None, there)

    def test_small_ones(self):
        for bounds in SMALL[::2]:
            self.assert_alone(3, bounds)

    def test_drawn_ones(self):
        much = [self.assert_alone(count, bounds) for count, bounds in DRAWN if len(bounds) < 20]
        self.assertGreater(sum(much), 500)

    def test_of_120_bounds(self):
        for count, bounds in [case for case in DRAWN if len(case[1]) == 120][-4:]:
            self.assert_alone(count, bounds)

    def test_own(self):
        for count, bounds in DRAWN[::25]:
            self.assert_own(alone, count, list(bounds), 0)
            self.assert_stays(alone, count, list(bounds), len(bounds) - 1)


class Fewest(FewestCase):
    def test_empty_list(self):
        for count in range(1, 9):
            self.assertEqual(self.assert_fewest(count, []), [])

    def test_all_stand_alone(self):
        self.assertEqual(self.assert_fewest(3, BOUNDS[:4]), [0, 1, 2, 3])
        self.assertEqual(fewest(count=2, bounds=[(0, 1, 5)]), [0])
        self.assertEqual(self.assert_fewest(8, LINE), list(range(7)))

    def test_some_are_told_by_others(self):
        self.assertEqual(self.assert_fewest(3, BOUNDS), [0, 1, 2, 3])
        self.assertEqual(self.assert_fewest(3, BOUNDS[::-1]), [2, 3, 4, 5])
        self.assertEqual(self.assert_fewest(2, [(0, 1, 5), (0, 1, 6), (0, 1, 4), (0, 1, 7)]), [2])

    def test_from_a_point_to_itself(self):
        self.assertEqual(self.assert_fewest(2, [(0, 0, 0), (0, 1, 5), (1, 1, BIG)]), [1])
        self.assertEqual(self.assert_fewest(1, [(0, 0, 0)]), [])
        self.assertEqual(self.assert_fewest(1, [(0, 0, 1), (0, 0, -1), (0, 0, -2), (0, 0, 0)]), [2])

    def test_the_same_bound_twice(self):
        # The first of two alike is left out, as the other one still is there.
        self.assertEqual(self.assert_fewest(2, [(0, 1, 5), (0, 1, 5)]), [1])
        self.assertEqual(self.assert_fewest(2, [(0, 1, 5), (1, 0, -3), (0, 1, 5), (1, 0, -3), (0, 1, 5)]), [3, 4])
        self.assertEqual(self.assert_fewest(2, [(0, 1, 5)] * 120), [119])

    def test_from_first_to_last(self):
        # Three points at one time: each bound is told by two others, and which are left hangs on the order.
        round_one = [(0, 1, 0), (1, 2, 0), (2, 0, 0), (1, 0, 0), (2, 1, 0), (0, 2, 0)]
        self.assertEqual(self.assert_fewest(3, round_one), [3, 4, 5])
        for mixed in itertools.permutations(round_one):
            self.assertIn(len(self.assert_fewest(3, list(mixed))), (3, 4))

    def test_what_was_left_out_tells_nothing_more(self):
        # Each of the two tells the other by way of the first bound; with both left out something would be lost.
        bounds = [(0, 1, 0), (1, 0, 0), (0, 2, 5), (1, 2, 5)]
        self.assertEqual(self.assert_fewest(3, bounds), [0, 1, 3])
        self.assertEqual(self.assert_fewest(3, bounds[2:] + bounds[:2]), [1, 2, 3])

    def test_nobody_keeps_the_list(self):
        self.assertEqual(self.assert_fewest(3, BOUNDS + [(0, 2, 3)]), [5, 6])
        self.assertEqual(self.assert_fewest(3, BOUNDS[:4] + [(0, 2, 3)]), [1, 3, 4])
        self.assertEqual(self.assert_fewest(1, [(0, 0, -1)]), [0])
        self.assertEqual(self.assert_fewest(3, [(0, 1, 3), (1, 0, -4), (0, 1, 2), (2, 2, -1)]), [3])
        self.assertEqual(self.assert_fewest(3, [(2, 2, -1), (0, 1, 3), (1, 0, -4), (0, 1, 2)]), [2, 3])
        self.assertEqual(self.assert_fewest(8, LINE + [(7, 0, -LINE_SUM - 1)]), list(range(8)))

    def test_nobody_keeps_the_list_in_any_order(self):
        draw = random.Random(26)
        bounds = LINE + [(7, 0, -LINE_SUM - 1), (0, 7, LINE_SUM), (3, 2, -100), (3, 2, -101)]
        for k in range(60):
            self.assert_fewest(8, bounds)
            draw.shuffle(bounds)

    def test_great_numbers(self):
        bounds = [(0, 2, 2 * BIG), (0, 1, BIG), (1, 2, BIG)]
        self.assertEqual(self.assert_fewest(3, bounds), [1, 2])
        self.assertEqual(self.assert_fewest(3, bounds + [(2, 0, -2 * BIG)]), [1, 2, 3])
        self.assertEqual(self.assert_fewest(3, bounds + [(2, 0, -2 * BIG - 1)]), [1, 2, 3])

    def test_kept_by_the_same_schedules_of_the_window(self):
        for bounds in SMALL[::3]:
            left = [bounds[place] for place in fewest(3, bounds)]
            for times in WINDOW[::3]:
                self.assertEqual(keeps_all(times, left), keeps_all(times, bounds))

    def test_small_ones(self):
        for bounds in SMALL:
            self.assert_fewest(3, bounds)

    def test_drawn_ones(self):
        for count, bounds in DRAWN:
            if len(bounds) < 20:
                self.assert_fewest(count, bounds)

    def test_of_120_bounds(self):
        for lists in (KEPT, TORN):
            for count, bounds in [case for case in lists if len(case[1]) == 120][-3:]:
                self.assert_fewest(count, bounds)

    def test_told_list_is_the_askers_own(self):
        for count, bounds in DRAWN[::25]:
            self.assert_own(fewest, count, list(bounds))
            self.assert_stays(fewest, count, list(bounds))
        self.assert_own(fewest, 2, [])
