"""Promises 20 and 21, and promises 2 and 3 as far as they speak of them: waithouse/turns.py."""

import itertools
import random

from samples import (
    BIG, LINE, LINE_SUM, SMALL, Case, asked, drawn_between, drawn_settings, grounded, has_course, keeps_all,
    shortest_sums, with_time,
)
from waithouse.tables import lies, table_of, wide
from waithouse.turns import course, limit, turn

BOUNDS = [(0, 1, 8), (1, 0, -3), (1, 2, 4), (2, 1, -1)]
TABLE = [[0, 8, 12], [-3, 0, 4], [-4, -1, 0]]
OPEN = [None, None, None]

# Three points with bounds of at most 2 and set times of at most 2: a chain comes to 4 at most, so what is above 6 has
# no greatest; and where there is no greatest, some course has all open points from 7 to 11.
FIRST_NOW = -3
SURE = 6
FRAME = list(itertools.product(range(FIRST_NOW, 12), repeat=3))
SMALL_SETTINGS = list(itertools.product((None, -1, 0, 2), repeat=3))


def open_points(setting):
    return [x for x in range(len(setting)) if setting[x] is None]


def goes_with(times, setting, now):
    """Whether a schedule has the setting's times, and no open point below now."""
    return all(time >= now if fixed is None else time == fixed for time, fixed in zip(times, setting))


def small_cases():
    """Tuples (bounds, setting, now, courses) of three points, with all courses within the frame."""
    found = []
    for bounds in SMALL[::11] + SMALL[-20:]:
        kept = [times for times in FRAME if keeps_all(times, bounds)]
        for setting in SMALL_SETTINGS[::3]:
            for now in (FIRST_NOW, -1, 0, 1, 3):
                courses = [times for times in kept if goes_with(times, setting, now)]
                if courses:
                    found.append((bounds, list(setting), now, courses))
    return found


def drawn_cases():
    """Tuples (bounds, setting, now) of 1 to 8 points, for which there is a course: no point is set, some, or all."""
    draw = random.Random(20)
    found = []
    for bounds, times, setting in drawn_settings(20):
        first = min([times[x] for x in open_points(setting)], default=0)
        found.append((bounds, setting, first - draw.choice((0, 0, 1, 10 ** 6, BIG))))
    return found


SMALL_CASES = small_cases()
CASES = drawn_cases()


def seen_limit(setting, courses):
    """The limit by the very words: the greatest of the least times that the open points have in a course."""
    if not open_points(setting):
        return None
    most = max(min(times[x] for x in open_points(setting)) for times in courses)
    return None if most > SURE else most


def seen_turn(setting, courses, x):
    """The turn by the very words, and all times of it that are sure to lie in the frame."""
    if setting[x] is not None:
        return None, []
    nexts = sorted({times[x] for times in courses if all(times[x] <= times[y] for y in open_points(setting))})
    if not nexts:
        return None, []
    return (nexts[0], None if nexts[-1] > SURE else nexts[-1]), [time for time in nexts if time <= SURE]


def may_be_next(bounds, setting, now, x, time):
    """Whether some course has x at the time, and no open point at a lesser one."""
    return time >= now and has_course(bounds, with_time(setting, x, time), time)


def found_turn(bounds, setting, now, x):
    """The turn, from the sums of shortest chains with one point more."""
    if setting[x] is not None:
        return None
    count = len(setting)
    sums = shortest_sums(count + 1, grounded(bounds, setting, now) + [(y, x, 0) for y in open_points(setting)])
    return None if sums is None else (-sums[x][count], sums[count][x])


class Turns(Case):
    def assert_course(self, told, bounds, setting, now):
        self.assert_schedule(told, len(setting))
        self.assertTrue(keeps_all(told, bounds))
        self.assertTrue(goes_with(told, setting, now))

    def assert_limit(self, told, wanted):
        self.assertEqual(told, wanted)
        self.assertIn(type(told), (int, type(None)))

    def assert_turn(self, told, wanted):
        self.assertEqual(told, wanted)
        if told is not None:
            self.assertIs(type(told), tuple)
            self.assertEqual(len(told), 2)
            self.assert_whole(told[0])
            self.assertIn(type(told[1]), (int, type(None)))


class Course(Turns):
    def assert_told(self, bounds, setting, now):
        count = len(setting)
        self.assert_course(asked(course, table_of(count, bounds), setting, now), bounds, setting, now)

    def test_no_time_set(self):
        for now in (0, 1, -1, 100, BIG, -BIG):
            self.assert_told(BOUNDS, OPEN, now)
            self.assert_told([], [None], now)
            self.assert_told([], [None] * 8, now)
            self.assert_told(LINE, [None] * 8, now)
            self.assert_told([(0, 1, -BIG)], [None, None], now)

    def test_some_times_set(self):
        for now in (100, 101, 104, 107, 108):
            self.assert_told(BOUNDS, [100, None, None], now)
        for now in (106, 108, 109, 0):
            self.assert_told(BOUNDS, [100, 105, None], now)

    def test_all_times_set(self):
        for now in (0, -BIG, BIG, 105, 110):
            self.assertEqual(asked(course, TABLE, [100, 105, 109], now), (100, 105, 109))
        self.assertEqual(course(table=wide(1), setting=[-7], now=0), (-7,))
        self.assertEqual(course(wide(8), [0, 1, 2, 3, 4, 5, 6, BIG], 0), (0, 1, 2, 3, 4, 5, 6, BIG))

    def test_set_times_above_now(self):
        self.assert_told(BOUNDS, [None, 105, None], 0)
        self.assert_told(BOUNDS, [None, 105, None], 99)
        self.assert_told(BOUNDS, [None, 105, None], 102)
        self.assert_told(BOUNDS, [None, None, 105], -BIG)
        self.assert_told([], [None, 5, BIG], 0)

    def test_set_times_above_and_below_now(self):
        bounds = [(0, 2, 50), (2, 1, 7), (3, 1, 20)]
        for now in (0, 12, 50):
            self.assert_told(bounds, [0, 40, None, None], now)

    def test_an_open_point_is_late_for_another_ones_sake(self):
        # Point 1 need only be 10 behind point 0, which itself may not be below now.
        self.assert_told([(1, 0, -10)], [None, None], 100)
        self.assert_told([(1, 0, -10), (2, 1, -10)], [None, None, None], 100)
        # Point 0 is at most 10 ahead of point 1, and that is set later than now.
        self.assert_told([(0, 1, 10)], [None, 500], 100)
        # Both at once: it is now, not the set time, that makes point 1 late; then the other way round.
        self.assert_told([(1, 0, -10), (1, 2, -10)], [None, None, 5], 100)
        self.assert_told([(1, 0, -10), (1, 2, -10)], [None, None, 500], 100)

    def test_now_at_the_limit(self):
        self.assert_told(BOUNDS, [100, None, None], 108)
        self.assert_told(BOUNDS, [None, 105, None], 102)
        self.assert_told(LINE, [0] + [None] * 7, 1)
        self.assert_told([(0, 1, BIG), (0, 2, 0)], [BIG, None, BIG], 2 * BIG)

    def test_great_numbers(self):
        bounds = [(0, 1, BIG), (1, 0, 1 - BIG), (1, 2, BIG), (2, 1, -BIG)]
        for now in (BIG, -BIG, 2 * BIG - 1, 2 * BIG):
            self.assert_told(bounds, [BIG, None, None], now)

    def test_all_small_ones(self):
        for bounds, setting, now, courses in SMALL_CASES:
            self.assert_course(course(table_of(3, bounds), setting, now), bounds, setting, now)

    def test_drawn_ones(self):
        for bounds, setting, now in CASES:
            self.assert_told(bounds, setting, now)

    def test_drawn_ones_at_the_limit(self):
        for bounds, setting, now in CASES:
            end = limit(table_of(len(setting), bounds), setting)
            self.assert_told(bounds, setting, now + BIG if end is None else end)


class Limit(Turns):
    def test_no_time_set(self):
        for table in (TABLE, wide(1), wide(8), table_of(8, LINE), table_of(2, [(0, 1, -BIG), (1, 0, BIG)])):
            self.assert_limit(asked(limit, table, [None] * len(table)), None)

    def test_no_point_open(self):
        self.assert_limit(asked(limit, TABLE, [100, 105, 109]), None)
        self.assert_limit(limit(table=wide(1), setting=[0]), None)
        self.assert_limit(limit(table_of(2, [(0, 1, 5), (1, 0, -5)]), [0, 5]), None)

    def test_a_greatest_number(self):
        self.assert_limit(asked(limit, TABLE, [100, None, None]), 108)
        self.assert_limit(asked(limit, TABLE, [100, 103, None]), 107)
        self.assert_limit(asked(limit, TABLE, [None, 105, None]), 102)
        self.assert_limit(asked(limit, TABLE, [None, None, 105]), 101)
        self.assert_limit(asked(limit, TABLE, [None, 0, None]), -3)
        self.assert_limit(asked(limit, table_of(2, [(0, 1, 0)]), [0, None]), 0)
        self.assert_limit(asked(limit, table_of(2, [(0, 1, 0)]), [-1, None]), -1)

    def test_the_first_that_must_come_tells(self):
        bounds = [(0, 1, 30), (0, 2, 10), (0, 3, 20)]
        self.assert_limit(asked(limit, table_of(4, bounds), [100, None, None, None]), 110)
        self.assert_limit(asked(limit, table_of(4, bounds), [100, None, 0, None]), 120)
        self.assert_limit(asked(limit, table_of(4, bounds), [100, None, 0, 0]), 130)
        # Two set points tell of one open one: the lesser of their numbers holds.
        self.assert_limit(limit(table_of(3, [(0, 2, 10), (1, 2, 10)]), [5, 3, None]), 13)
        self.assert_limit(limit(table_of(3, [(0, 2, 10), (1, 2, 10)]), [3, 5, None]), 13)

    def test_one_that_has_no_greatest_time_hinders_nobody(self):
        self.assert_limit(asked(limit, table_of(3, [(0, 1, 5)]), [10, None, None]), 15)
        self.assert_limit(asked(limit, table_of(3, [(0, 2, 5)]), [10, None, None]), 15)

    def test_no_greatest_beside_set_points(self):
        self.assert_limit(asked(limit, table_of(3, [(0, 1, 5)]), [None, 10, None]), None)
        self.assert_limit(asked(limit, table_of(3, [(0, 1, 5)]), [10, 12, None]), None)
        self.assert_limit(asked(limit, table_of(3, [(1, 0, -5), (2, 1, -5)]), [10, None, None]), None)

    def test_over_all_points(self):
        self.assert_limit(limit(table_of(8, LINE), [1000] + [None] * 7), 1001)
        self.assert_limit(limit(table_of(8, LINE), [1000] + [5] * 6 + [None]), 5 + 10 ** 6)
        self.assert_limit(limit(table_of(8, LINE), [1000] + [None] * 6 + [1000 + LINE_SUM]), 1001)

    def test_great_numbers(self):
        table = table_of(3, [(0, 1, BIG), (1, 2, BIG), (2, 1, 0)])
        self.assert_limit(asked(limit, table, [BIG, None, None]), 2 * BIG)
        self.assert_limit(asked(limit, table, [BIG, 2 * BIG, None]), 3 * BIG)
        self.assert_limit(asked(limit, table, [-BIG, None, None]), 0)

    def test_the_same_by_each_now(self):
        for bounds, setting, now, courses in SMALL_CASES:
            self.assert_limit(limit(table_of(3, bounds), setting), seen_limit(setting, courses))

    def test_drawn_ones(self):
        numbers = 0
        for bounds, setting, now in CASES:
            told = asked(limit, table_of(len(setting), bounds), setting)
            if told is None:
                self.assertTrue(has_course(bounds, setting, 100 * BIG))
            else:
                numbers += 1
                self.assertLessEqual(now, told)
                self.assertTrue(has_course(bounds, setting, told))
                self.assertFalse(has_course(bounds, setting, told + 1))
        self.assertGreater(numbers, 100)
        self.assertGreater(len(CASES) - numbers, 100)


class Turn(Turns):
    def test_of_a_point_that_is_not_open(self):
        for x in range(3):
            self.assert_turn(asked(turn, TABLE, [100, 105, 109], 105, x), None)
        self.assert_turn(asked(turn, TABLE, [100, None, None], 100, 0), None)
        self.assert_turn(asked(turn, TABLE, [0, None, None], 0, 0), None)
        self.assert_turn(asked(turn, wide(2), [7, None], 0, 0), None)

    def test_of_an_open_one_that_must_follow_another(self):
        self.assert_turn(asked(turn, TABLE, OPEN, 100, 1), None)
        self.assert_turn(asked(turn, TABLE, OPEN, 100, 2), None)
        self.assert_turn(asked(turn, TABLE, [100, None, None], 100, 2), None)
        self.assert_turn(asked(turn, TABLE, [None, 105, None], 100, 2), None)
        self.assert_turn(asked(turn, table_of(2, [(1, 0, -1)]), [None, None], 0, 1), None)

    def test_beside_one_that_it_may_be_at_once_with(self):
        for number in (0, 1, BIG):
            self.assert_turn(asked(turn, table_of(2, [(1, 0, number)]), [None, None], 3, 1), (3, None))
            self.assert_turn(asked(turn, table_of(2, [(1, 0, number)]), [None, None], 3, 0), (3, None))
        equal = table_of(2, [(0, 1, 0), (1, 0, 0)])
        self.assert_turn(turn(equal, [None, None], 3, 0), (3, None))
        self.assert_turn(turn(equal, [None, None], 3, 1), (3, None))

    def test_of_one_that_must_wait_for_a_set_point_and_follow_an_open_one_so(self):
        # No gap lies between 2 and 3, but by the set times 3 is not below 100, and 2 not above 10.
        table = table_of(4, [(0, 2, 10), (3, 1, 0)])
        setting = [0, 100, None, None]
        self.assert_turn(asked(turn, table, setting, 5, 2), (5, 10))
        self.assert_turn(asked(turn, table, setting, 5, 3), None)
        self.assert_turn(asked(turn, table, [0, 10, None, None], 5, 3), (10, 10))
        self.assert_turn(asked(turn, table, [0, 11, None, None], 5, 3), None)

    def test_both_ends(self):
        self.assert_turn(asked(turn, TABLE, [100, None, None], 100, 1), (103, 108))
        self.assert_turn(asked(turn, TABLE, [100, 105, None], 105, 2), (106, 109))
        self.assert_turn(asked(turn, TABLE, [None, 105, None], 0, 0), (97, 102))
        self.assert_turn(asked(turn, TABLE, [None, None, 105], 0, 0), (93, 101))
        self.assert_turn(turn(table=TABLE, setting=[100, None, None], now=0, x=1), (103, 108))

    def test_not_below_now(self):
        for now, low in ((102, 103), (103, 103), (104, 104), (107, 107), (108, 108)):
            self.assert_turn(asked(turn, TABLE, [100, None, None], now, 1), (low, 108))

    def test_not_above_the_end_of_another_open_point(self):
        table = table_of(3, [(0, 1, 30), (0, 2, 10)])
        self.assert_turn(asked(turn, table, [100, None, None], 100, 1), (100, 110))
        self.assert_turn(asked(turn, table, [100, None, None], 100, 2), (100, 110))
        self.assert_turn(asked(turn, table, [100, None, 105], 105, 1), (105, 130))

    def test_high_none(self):
        for now in (0, -5, BIG, -BIG):
            self.assert_turn(asked(turn, TABLE, OPEN, now, 0), (now, None))
            self.assert_turn(asked(turn, wide(1), [None], now, 0), (now, None))
            self.assert_turn(asked(turn, wide(8), [None] * 8, now, 5), (now, None))
        self.assert_turn(asked(turn, table_of(2, [(1, 0, -5)]), [10, None], 12, 1), (15, None))
        self.assert_turn(asked(turn, table_of(2, [(1, 0, -5)]), [10, None], 20, 1), (20, None))

    def test_at_time_0(self):
        table = table_of(2, [(1, 0, 0), (0, 1, 0)])
        self.assert_turn(asked(turn, table, [0, None], 0, 1), (0, 0))
        self.assert_turn(asked(turn, table, [0, None], -5, 1), (0, 0))

    def test_great_numbers(self):
        table = table_of(3, [(0, 1, BIG), (1, 0, 1 - BIG), (1, 2, BIG), (2, 1, -BIG)])
        self.assert_turn(asked(turn, table, [BIG, None, None], -BIG, 1), (2 * BIG - 1, 2 * BIG))
        self.assert_turn(asked(turn, table, [BIG, 2 * BIG, None], 2 * BIG, 2), (3 * BIG, 3 * BIG))
        self.assert_turn(asked(turn, table, [BIG, None, None], -BIG, 2), None)

    def test_all_small_ones(self):
        told_some = 0
        for bounds, setting, now, courses in SMALL_CASES:
            table = table_of(3, bounds)
            for x in range(3):
                wanted, times = seen_turn(setting, courses, x)
                self.assert_turn(turn(table, setting, now, x), wanted)
                if wanted is not None:
                    told_some += 1
                    # Each whole number from low to high is there.
                    last = SURE if wanted[1] is None else wanted[1]
                    self.assertEqual(times, list(range(wanted[0], last + 1)))
        self.assertGreater(told_some, 1000)

    def test_drawn_ones(self):
        draw = random.Random(21)
        for bounds, setting, now in CASES:
            table = table_of(len(setting), bounds)
            for x in range(len(setting)):
                told = asked(turn, table, setting, now, x)
                self.assert_turn(told, found_turn(bounds, setting, now, x))
                if told is not None:
                    self.assert_ends(bounds, setting, now, x, told, draw)

    def assert_ends(self, bounds, setting, now, x, told, draw):
        low, high = told
        self.assertGreaterEqual(low, now)
        self.assertFalse(may_be_next(bounds, setting, now, x, low - 1))
        for time in {low, drawn_between(draw, low, high)}:
            self.assertTrue(may_be_next(bounds, setting, now, x, time))
        if high is None:
            self.assertTrue(may_be_next(bounds, setting, now, x, low + 100 * BIG))
        else:
            self.assertTrue(may_be_next(bounds, setting, now, x, high))
            self.assertFalse(may_be_next(bounds, setting, now, x, high + 1))

    def test_some_open_point_has_one(self):
        for bounds, setting, now in CASES + [case[:3] for case in SMALL_CASES]:
            table = table_of(len(setting), bounds)
            turns = [turn(table, setting, now, x) for x in range(len(setting))]
            self.assertEqual(any(told is not None for told in turns), None in setting)

    def test_some_open_point_has_one_at_the_limit(self):
        for bounds, setting, now in CASES:
            table = table_of(len(setting), bounds)
            end = limit(table, setting)
            if end is not None:
                turns = [turn(table, setting, end, x) for x in range(len(setting))]
                self.assertIn((end, end), turns)
                self.assertLessEqual(set(turns), {None, (end, end)})


class OwnThings(Turns):
    def test_asked_anew(self):
        table = table_of(2, [(0, 1, 5), (1, 0, 0)])
        setting = [10, None]
        self.assertEqual((limit(table, setting), turn(table, setting, 12, 1)), (15, (12, 15)))
        table[0][1] = 3
        setting[0] = 20
        self.assertEqual((limit(table, setting), turn(table, setting, 12, 1)), (23, (20, 23)))
        setting[0] = None
        self.assertEqual((limit(table, setting), turn(table, setting, 12, 1)), (None, (12, None)))
        self.assertTrue(lies(table, course(table, setting, 12)))

    def test_the_same_each_time(self):
        for bounds, setting, now in CASES[::9]:
            table = table_of(len(setting), bounds)
            self.assert_own(limit, table, setting)
            self.assert_own(course, table, setting, now)
            for x in range(len(setting)):
                self.assert_own(turn, table, setting, now, x)

    def test_told_things_stay(self):
        for bounds, setting, now in CASES[::9]:
            count = len(setting)
            self.assert_stays(limit, table_of(count, bounds), list(setting))
            self.assert_stays(course, table_of(count, bounds), list(setting), now)
            self.assert_stays(turn, table_of(count, bounds), list(setting), now, count - 1)
