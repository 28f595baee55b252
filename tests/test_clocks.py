"""Promise 22, and promises 2 and 3 as far as they speak of it: waithouse/clocks.py."""

import copy
import itertools
import random

from samples import (
    BIG, KEPT, LINE, SMALL, WINDOW, Case, drawn_between, drawn_times, has_course, keeps_all, spoil,
)
from waithouse import errors
from waithouse.clocks import Clock
from waithouse.tables import table_of, wide
from waithouse.turns import course, limit, turn

BOUNDS = [(0, 1, 8), (1, 0, -3), (1, 2, 4), (2, 1, -1)]
TABLE = [[0, 8, 12], [-3, 0, 4], [-4, -1, 0]]
LONG = [(count, bounds) for count, bounds in KEPT if count == 8]
OTHER_REFUSALS = (errors.NoLink, errors.NoRoom, errors.NoName, errors.NoKeep, errors.NoRow)


def begun(table, start, marks):
    """A clock over the table on which points are marked, each mark a tuple (x, time)."""
    clock = Clock(table, start)
    for x, time in marks:
        clock.mark(x, time)
    return clock


def answers(clock):
    """All that a clock tells."""
    setting = clock.setting()
    turns = [clock.turn(x) for x in range(len(setting))]
    return (clock.now(), setting, clock.limit(), turns, clock.course())


def nexts(clock):
    """The points that may be the next."""
    return [x for x in range(len(clock.setting())) if clock.turn(x) is not None]


class Clocks(Case):
    def assert_wait_refused(self, clock, time):
        self.assert_refused(clock, lambda: clock.wait(time))

    def assert_mark_refused(self, clock, x, time):
        self.assert_refused(clock, lambda: clock.mark(x, time))

    def assert_refused(self, clock, do):
        """What is done is refused with NoTime, and nothing has changed."""
        before = answers(clock)
        with self.assertRaises(errors.NoTime):
            do()
        self.assertEqual(answers(clock), before)

    def assert_course(self, clock, bounds):
        told = clock.course()
        setting = clock.setting()
        self.assert_schedule(told, len(setting))
        self.assertTrue(keeps_all(told, bounds))
        for time, fixed in zip(told, setting):
            if fixed is None:
                self.assertGreaterEqual(time, clock.now())
            else:
                self.assertEqual(time, fixed)

    def assert_waits(self, clock, time):
        """The clock waits to the time, which becomes its now; the setting and the limit stay."""
        before = (clock.setting(), clock.limit())
        clock.wait(time)
        self.assertEqual(clock.now(), time)
        self.assertEqual((clock.setting(), clock.limit()), before)

    def assert_marks(self, clock, x, time):
        """The point has the time, which becomes the clock's now; the others stay."""
        wanted = clock.setting()
        wanted[x] = time
        clock.mark(x, time)
        self.assertEqual((clock.now(), clock.setting()), (time, wanted))
        self.assertIs(clock.turn(x), None)


class Begin(Clocks):
    def test_all_points_open(self):
        for table, start in itertools.product((TABLE, wide(1), wide(8), table_of(8, LINE)), (0, -7, BIG, -BIG)):
            clock = Clock(table, start)
            self.assertEqual(clock.now(), start)
            self.assert_whole(clock.now())
            self.assertEqual(clock.setting(), [None] * len(table))
            self.assertIs(type(clock.setting()), list)
            self.assertIs(clock.limit(), None)
            self.assert_course(clock, [])

    def test_turns(self):
        clock = Clock(TABLE, 100)
        self.assertEqual([clock.turn(x) for x in range(3)], [(100, None), None, None])
        clock = Clock(wide(8), -3)
        self.assertEqual([clock.turn(x) for x in range(8)], [(-3, None)] * 8)

    def test_by_name(self):
        clock = Clock(table=TABLE, start=100)
        clock.wait(time=101)
        clock.mark(x=0, time=102)
        self.assertEqual(clock.turn(x=1), (105, 110))


class Wait(Clocks):
    def test_to_its_now_between_and_to_the_limit(self):
        clock = begun(TABLE, 50, [(0, 100)])
        self.assertEqual(clock.limit(), 108)
        for time in (100, 100, 101, 106, 106, 107, 108, 108):
            self.assert_waits(clock, time)
            self.assert_course(clock, BOUNDS)
            self.assertEqual(clock.turn(1), (max(103, time), 108))
        clock.mark(1, 108)

    def test_beyond_the_limit(self):
        for time in (100, 105, 108):
            clock = begun(TABLE, 100, [(0, 100)])
            clock.wait(time)
            for other in (109, 110, BIG):
                self.assert_wait_refused(clock, other)

    def test_below_its_now(self):
        for time in (100, 105, 108):
            clock = begun(TABLE, 100, [(0, 100)])
            clock.wait(time)
            for other in (time - 1, time - 2, 0, -BIG):
                self.assert_wait_refused(clock, other)

    def test_where_the_limit_is_none(self):
        clock = Clock(TABLE, -BIG)
        for time in (-BIG, 1 - BIG, -1, 0, 7, BIG):
            self.assert_waits(clock, time)
            self.assert_wait_refused(clock, time - 1)
            self.assert_course(clock, BOUNDS)
        clock.mark(0, BIG)
        self.assert_wait_refused(clock, BIG + 9)

    def test_where_no_point_is_open(self):
        clock = begun(TABLE, 100, [(0, 100), (1, 105), (2, 109)])
        self.assertIs(clock.limit(), None)
        for time in (109, 110, BIG):
            self.assert_waits(clock, time)
            self.assert_wait_refused(clock, time - 1)
        self.assertEqual(clock.course(), (100, 105, 109))

    def test_over_one_point(self):
        clock = Clock(wide(1), 0)
        for time in (0, 5, BIG):
            self.assert_waits(clock, time)
        self.assert_wait_refused(clock, 0)
        self.assert_wait_refused(clock, BIG - 1)

    def test_over_eight_points(self):
        clock = begun(table_of(8, LINE), 0, [(0, 1000)])
        self.assertEqual(clock.limit(), 1001)
        self.assert_wait_refused(clock, 1002)
        self.assert_wait_refused(clock, 999)
        self.assert_waits(clock, 1001)
        clock.mark(1, 1001)
        self.assertEqual(clock.limit(), 1011)
        self.assert_wait_refused(clock, 1012)
        self.assert_waits(clock, 1005)

    def test_goes_on_behind_a_refusal(self):
        clock = begun(TABLE, 100, [(0, 100)])
        self.assert_wait_refused(clock, 109)
        self.assert_wait_refused(clock, 99)
        self.assert_waits(clock, 108)
        clock.mark(1, 108)
        clock.mark(2, 112)
        self.assertTrue(keeps_all(clock.setting(), BOUNDS))

    def test_refusal(self):
        clock = Clock(TABLE, 100)
        for kind in (errors.NoTime, errors.WaitError, ValueError):
            with self.assertRaises(kind) as caught:
                clock.wait(99)
            self.assertIs(type(caught.exception), errors.NoTime)
            self.assertNotIsInstance(caught.exception, OTHER_REFUSALS)


class Mark(Clocks):
    def test_ordinary(self):
        clock = Clock(TABLE, 90)
        self.assert_marks(clock, 0, 100)
        self.assertEqual((clock.limit(), [clock.turn(x) for x in range(3)]), (108, [None, (103, 108), None]))
        self.assert_marks(clock, 1, 105)
        self.assertEqual((clock.limit(), [clock.turn(x) for x in range(3)]), (109, [None, None, (106, 109)]))
        self.assert_marks(clock, 2, 109)
        self.assertEqual((clock.limit(), [clock.turn(x) for x in range(3)]), (None, [None, None, None]))
        self.assertEqual((clock.setting(), clock.course()), ([100, 105, 109], (100, 105, 109)))

    def test_ends_between_and_one_outside(self):
        for time in (103, 104, 107, 108):
            self.assert_marks(begun(TABLE, 100, [(0, 100)]), 1, time)
        clock = begun(TABLE, 100, [(0, 100)])
        for time in (102, 109, 100, 99, 0, BIG, -BIG):
            self.assert_mark_refused(clock, 1, time)
        clock.wait(105)
        for time in (103, 104, 109):
            self.assert_mark_refused(clock, 1, time)
        self.assert_marks(clock, 1, 105)

    def test_high_none(self):
        for time in (100, 101, BIG):
            self.assert_marks(Clock(TABLE, 100), 0, time)
        self.assert_mark_refused(Clock(TABLE, 100), 0, 99)
        self.assert_mark_refused(Clock(TABLE, 100), 0, -BIG)
        self.assert_marks(Clock(wide(8), 0), 7, 0)

    def test_not_the_next(self):
        clock = Clock(TABLE, 100)
        for x, time in itertools.product((1, 2), (99, 100, 103, 104, BIG)):
            self.assert_mark_refused(clock, x, time)

    def test_not_open(self):
        clock = begun(TABLE, 100, [(0, 100)])
        for time in (99, 100, 101, 103, 108, BIG):
            self.assert_mark_refused(clock, 0, time)
        clock.mark(1, 103)
        clock.mark(2, 104)
        for x, time in itertools.product(range(3), (100, 103, 104, 105)):
            self.assert_mark_refused(clock, x, time)

    def test_not_above_what_another_open_point_must_have(self):
        clock = begun(table_of(3, [(0, 1, 30), (0, 2, 10)]), 100, [(0, 100)])
        self.assert_mark_refused(clock, 1, 111)
        self.assert_marks(clock, 1, 110)
        self.assert_mark_refused(clock, 2, 109)
        self.assert_marks(clock, 2, 110)

    def test_at_time_0(self):
        clock = Clock(table_of(2, [(0, 1, 0), (1, 0, 0)]), 0)
        self.assert_marks(clock, 1, 0)
        self.assertEqual((clock.limit(), clock.turn(0)), (0, (0, 0)))
        self.assert_mark_refused(clock, 1, 0)
        self.assert_marks(clock, 0, 0)

    def test_goes_on_behind_a_refusal(self):
        clock = begun(TABLE, 100, [(0, 100)])
        self.assert_mark_refused(clock, 1, 109)
        self.assert_mark_refused(clock, 2, 104)
        self.assert_marks(clock, 1, 108)
        self.assert_mark_refused(clock, 2, 108)
        self.assert_marks(clock, 2, 112)
        self.assertTrue(keeps_all(clock.setting(), BOUNDS))

    def test_refusal(self):
        clock = begun(TABLE, 100, [(0, 100)])
        for kind, x in itertools.product((errors.NoTime, errors.WaitError, ValueError), range(3)):
            with self.assertRaises(kind) as caught:
                clock.mark(x, 100)
            self.assertIs(type(caught.exception), errors.NoTime)
            self.assertNotIsInstance(caught.exception, OTHER_REFUSALS)


class WholeCourses(Clocks):
    def assert_to_the_end(self, bounds, clock, choose, pick):
        """Some point may always be the next, until none is open; then all bounds are kept."""
        table = table_of(len(clock.setting()), bounds)
        last = clock.now()
        while None in clock.setting():
            self.assert_tells(clock, table)
            self.assert_course(clock, bounds)
            clock.wait(choose(clock.now(), clock.limit()))
            self.assert_edges(clock)
            self.assertTrue(nexts(clock))
            x = pick(nexts(clock))
            time = choose(*clock.turn(x))
            self.assertGreaterEqual(time, last)
            self.assert_marks(clock, x, time)
            self.assertTrue(has_course(bounds, clock.setting(), clock.now()))
            last = time
        self.assertTrue(keeps_all(clock.setting(), bounds))
        self.assertEqual(clock.course(), tuple(clock.setting()))
        self.assertEqual((nexts(clock), clock.limit()), ([], None))

    def assert_tells(self, clock, table):
        """The clock tells what the functions tell of its table, its setting and its now."""
        setting = clock.setting()
        turns = [turn(table, setting, clock.now(), x) for x in range(len(table))]
        told = (clock.now(), setting, limit(table, setting), turns, course(table, setting, clock.now()))
        self.assertEqual(answers(clock), told)

    def assert_edges(self, clock):
        """One beyond each end is refused."""
        self.assert_wait_refused(clock, clock.now() - 1)
        if clock.limit() is not None:
            self.assert_wait_refused(clock, clock.limit() + 1)
        for x in range(len(clock.setting())):
            ends = clock.turn(x)
            if ends is None:
                self.assert_mark_refused(clock, x, clock.now())
            else:
                self.assert_mark_refused(clock, x, ends[0] - 1)
                if ends[1] is not None:
                    self.assert_mark_refused(clock, x, ends[1] + 1)

    def assert_drawn(self, lists, choose):
        draw = random.Random(22)
        for count, bounds in lists:
            start = draw.choice((0, -5, BIG, -BIG, draw.randint(-10 ** 6, 10 ** 6)))
            self.assert_to_the_end(bounds, Clock(table_of(count, bounds), start), choose, draw.choice)

    def test_one_point(self):
        for bounds, start in itertools.product(([], [(0, 0, 0)], [(0, 0, BIG)]), (0, BIG, -BIG)):
            clock = Clock(table_of(1, bounds), start)
            self.assert_to_the_end(bounds, clock, lambda low, high: low, min)

    def test_low_ends(self):
        self.assert_drawn(KEPT[::5] + LONG[::3] + [(8, LINE), (8, [])], lambda low, high: low)

    def test_high_ends(self):
        self.assert_drawn(KEPT[::5] + LONG[::3] + [(8, LINE)], lambda low, high: low if high is None else high)

    def test_between(self):
        draw = random.Random(23)
        self.assert_drawn(KEPT[::4] + LONG + [(8, LINE)], lambda low, high: drawn_between(draw, low, high))

    def test_small_ones(self):
        draw = random.Random(24)
        lists = [(3, bounds) for bounds in SMALL[::6] if table_of(3, bounds) is not None]
        self.assert_drawn(lists, lambda low, high: drawn_between(draw, low, high))


class EachSchedule(Clocks):
    def can_be_set(self, table, start, order, waits=None):
        """Whether the clock takes each mark of the order, a list of tuples (x, time), one behind the other."""
        clock = Clock(table, start)
        try:
            for x, time in order:
                if waits is not None:
                    clock.wait(waits.choice((clock.now(), time, waits.randint(clock.now(), time))))
                clock.mark(x, time)
        except errors.NoTime:
            return False
        self.assertEqual(clock.setting(), [dict(order)[x] for x in range(len(table))])
        return True

    def test_drawn_schedules_in_the_order_of_their_times(self):
        draw = random.Random(25)
        for count, bounds in KEPT + [(8, LINE), (8, [])]:
            times = drawn_times(draw, count, bounds)
            # Points at the same time may come in any order.
            order = sorted(draw.sample(list(enumerate(times)), count), key=lambda mark: mark[1])
            for back in (0, 1, BIG):
                self.assertTrue(self.can_be_set(table_of(count, bounds), min(times) - back, order))
                self.assertTrue(self.can_be_set(table_of(count, bounds), min(times) - back, order, waits=draw))
            self.assertFalse(self.can_be_set(table_of(count, bounds), min(times) + 1, order))

    def test_just_the_schedules_that_keep_the_bounds(self):
        for bounds in [BOUNDS] + SMALL[::9]:
            table = table_of(3, bounds)
            if table is not None:
                for times in WINDOW[::5]:
                    order = sorted(enumerate(times), key=lambda mark: mark[1])
                    self.assertEqual(self.can_be_set(table, min(times), order), keeps_all(times, bounds))

    def test_equal_times_in_each_order(self):
        for bounds in ([], [(0, 1, 0), (1, 2, 0), (2, 0, 0)], [(0, 1, 0)]):
            for order in itertools.permutations([(0, 7), (1, 7), (2, 7)]):
                self.assertTrue(self.can_be_set(table_of(3, bounds), 7, order))

    def test_none_out_of_the_order_of_its_times(self):
        self.assertFalse(self.can_be_set(wide(2), 0, [(0, 5), (1, 4)]))
        self.assertTrue(self.can_be_set(wide(2), 0, [(1, 4), (0, 5)]))
        self.assertFalse(self.can_be_set(TABLE, 0, [(1, 105), (0, 100), (2, 106)]))


class OwnThings(Clocks):
    def run_over(self, clock):
        """Does all that a clock can do, refused things too."""
        clock.wait(clock.now() + 1)
        clock.mark(0, clock.now())
        for refused in (lambda: clock.wait(clock.now() - 1), lambda: clock.mark(0, clock.now())):
            with self.assertRaises(errors.NoTime):
                refused()
        clock.mark(nexts(clock)[0], clock.turn(nexts(clock)[0])[0])
        answers(clock)

    def test_table_handed_in_stays(self):
        for table in (TABLE, wide(8), table_of(8, LINE)):
            own = copy.deepcopy(table)
            self.run_over(Clock(own, 0))
            self.assertEqual(own, table)

    def test_table_spoiled_behind_changes_no_answer(self):
        def change_entries(table):
            for row in table:
                row[:] = [0] * len(row)

        def change_rows(table):
            table[:] = wide(len(table))

        for change in (spoil, change_entries, change_rows):
            table = copy.deepcopy(TABLE)
            clock = begun(table, 50, [(0, 100)])
            before = answers(clock)
            change(table)
            self.assertEqual(answers(clock), before)
            self.assert_mark_refused(clock, 1, 109)
            self.assert_wait_refused(clock, 109)
            clock.mark(1, 108)
            self.assertEqual(clock.turn(2), (109, 112))
        table = copy.deepcopy(TABLE)
        clock = Clock(table, 50)
        spoil(table)
        self.assertEqual(answers(clock), answers(Clock(TABLE, 50)))

    def test_setting_is_a_new_list_each_time(self):
        clock = begun(TABLE, 50, [(0, 100)])
        before = answers(clock)
        one = clock.setting()
        other = clock.setting()
        one[1] = 0
        spoil(one)
        self.assertEqual(other, [100, None, None])
        self.assertEqual(answers(clock), before)

    def test_told_things_stay_when_the_clock_goes_on(self):
        clock = begun(TABLE, 50, [(0, 100)])
        told = answers(clock)
        kept = copy.deepcopy(told)
        clock.wait(102)
        clock.mark(1, 104)
        clock.mark(2, 107)
        self.assertEqual(told, kept)

    def test_asking_changes_nothing(self):
        clock = begun(TABLE, 50, [(0, 100)])
        before = answers(clock)
        for k in range(3):
            self.assertEqual(answers(clock), before)

    def test_two_clocks_do_not_touch_each_other(self):
        table = copy.deepcopy(TABLE)
        one = Clock(table, 0)
        other = Clock(table, 0)
        before = answers(other)
        one.wait(100)
        one.mark(0, 100)
        one.mark(1, 103)
        self.assertEqual(answers(other), before)
        other.mark(0, 7)
        self.assertEqual((one.now(), one.setting(), one.turn(2)), (103, [100, 103, None], (104, 107)))
        self.assertEqual((other.now(), other.setting(), other.turn(1)), (7, [7, None, None], (10, 15)))
        self.assertEqual(table, TABLE)

    def test_great_numbers(self):
        bounds = [(0, 1, BIG), (1, 0, 1 - BIG), (1, 2, BIG), (2, 1, -BIG)]
        clock = Clock(table_of(3, bounds), -BIG)
        self.assert_waits(clock, BIG)
        self.assert_marks(clock, 0, BIG)
        self.assertEqual((clock.limit(), clock.turn(1)), (2 * BIG, (2 * BIG - 1, 2 * BIG)))
        self.assert_wait_refused(clock, 2 * BIG + 1)
        self.assert_mark_refused(clock, 1, 2 * BIG + 1)
        self.assert_mark_refused(clock, 1, 2 * BIG - 2)
        self.assert_marks(clock, 1, 2 * BIG - 1)
        self.assert_marks(clock, 2, 3 * BIG - 1)
        self.assertEqual(clock.course(), (BIG, 2 * BIG - 1, 3 * BIG - 1))
