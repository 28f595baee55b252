"""Promise 19, and promises 2 and 3 as far as they speak of it: waithouse/walks.py."""

import copy
import itertools
import random

from samples import BIG, KEPT, LINE, SMALL, WINDOW, Case, drawn_between, goes, keeps_all, spoil
from waithouse import errors
from waithouse.rooms import filling, room
from waithouse.tables import lies, table_of, wide
from waithouse.walks import Walk

BOUNDS = [(0, 1, 8), (1, 0, -3), (1, 2, 4), (2, 1, -1)]
TABLE = [[0, 8, 12], [-3, 0, 4], [-4, -1, 0]]
LONG = [(count, bounds) for count, bounds in KEPT if count == 8]
OTHER_REFUSALS = (errors.NoLink, errors.NoTime, errors.NoName, errors.NoKeep, errors.NoRow)


def begun(setting, table):
    """A walk over the table in which the setting's times are placed."""
    walk = Walk(table)
    for x, time in enumerate(setting):
        if time is not None:
            walk.place(x, time)
    return walk


def answers(walk):
    """All that a walk tells."""
    setting = walk.setting()
    return (setting, [walk.room(x) for x in range(len(setting))], walk.filling())


def beyond(ends):
    """Times that lie outside of a room: one beyond each end, and far beyond it."""
    low, high = ends
    found = []
    if low is not None:
        found += [low - 1, low - BIG]
    if high is not None:
        found += [high + 1, high + BIG]
    return found


class Walks(Case):
    def assert_refused(self, walk, x, time):
        """The time is refused with NoRoom, and nothing has changed."""
        before = answers(walk)
        with self.assertRaises(errors.NoRoom):
            walk.place(x, time)
        self.assertEqual(answers(walk), before)

    def assert_filling(self, walk, table):
        told = walk.filling()
        self.assert_schedule(told, len(table))
        self.assertTrue(lies(table, told))
        for x, time in enumerate(walk.setting()):
            self.assertIn(time, (None, told[x]))

    def assert_to_the_end(self, count, bounds, order, choose):
        """Each point in the order finds a room, from which a time is chosen; at the end all bounds are kept."""
        table = table_of(count, bounds)
        walk = Walk(table)
        for x in order:
            self.assertIs(walk.setting()[x], None)
            ends = walk.room(x)
            for time in beyond(ends):
                self.assert_refused(walk, x, time)
            time = choose(*ends)
            walk.place(x, time)
            self.assertEqual(walk.setting()[x], time)
            self.assertEqual(walk.room(x), (time, time))
            self.assert_filling(walk, table)
        self.assertTrue(keeps_all(walk.setting(), bounds))
        self.assertEqual(walk.filling(), tuple(walk.setting()))


class Begin(Walks):
    def test_all_points_open(self):
        for table in (TABLE, wide(1), wide(8), table_of(8, LINE), table_of(2, [(0, 1, -BIG)])):
            walk = Walk(table)
            self.assertEqual(walk.setting(), [None] * len(table))
            self.assertIs(type(walk.setting()), list)
            for x in range(len(table)):
                self.assertEqual(walk.room(x), (None, None))
            self.assert_filling(walk, table)

    def test_by_name(self):
        walk = Walk(table=TABLE)
        walk.place(x=0, time=100)
        self.assertEqual(walk.room(x=1), (103, 108))
        walk.lift(x=0)
        self.assertEqual(walk.setting(), [None, None, None])


class Place(Walks):
    def test_ordinary(self):
        walk = Walk(TABLE)
        walk.place(1, 100)
        self.assertEqual(walk.setting(), [None, 100, None])
        self.assertEqual([walk.room(x) for x in range(3)], [(92, 97), (100, 100), (101, 104)])
        walk.place(0, 97)
        self.assertEqual([walk.room(x) for x in range(3)], [(97, 97), (100, 100), (101, 104)])
        walk.place(2, 104)
        self.assertEqual(walk.setting(), [97, 100, 104])
        self.assertEqual(walk.filling(), (97, 100, 104))
        self.assertIs(type(walk.room(0)), tuple)

    def test_ends_and_one_beyond(self):
        for x, low, high in ((1, 103, 108), (2, 104, 112)):
            for time in (low, high, low + 1, high - 1):
                walk = begun([100, None, None], TABLE)
                walk.place(x, time)
                self.assertEqual(walk.setting()[x], time)
            walk = begun([100, None, None], TABLE)
            for time in (low - 1, high + 1, 0, BIG, -BIG):
                self.assert_refused(walk, x, time)

    def test_end_none(self):
        for time in (-BIG, -1, 0, 15):
            begun([10, None, None], table_of(3, [(0, 1, 5)])).place(1, time)
        for time in (5, 6, BIG):
            begun([None, 10, None], table_of(3, [(0, 1, 5)])).place(0, time)
        for time in (-BIG, 0, BIG):
            begun([10, 12, None], table_of(3, [(0, 1, 5)])).place(2, time)
        self.assert_refused(begun([10, None, None], table_of(3, [(0, 1, 5)])), 1, 16)
        self.assert_refused(begun([None, 10, None], table_of(3, [(0, 1, 5)])), 0, 4)

    def test_first_point_anywhere(self):
        for x, time in itertools.product(range(3), (-BIG, -1, 0, 1, BIG)):
            walk = Walk(TABLE)
            walk.place(x, time)
            self.assertEqual(walk.setting(), [time if point == x else None for point in range(3)])

    def test_placed_again(self):
        for time in (0, -7, BIG):
            walk = Walk(TABLE)
            walk.place(0, time)
            before = answers(walk)
            walk.place(0, time)
            self.assertEqual(answers(walk), before)
            for other in (time - 1, time + 1, 1000):
                self.assert_refused(walk, 0, other)
        walk = begun([100, 105, 109], TABLE)
        walk.place(2, 109)
        self.assert_refused(walk, 2, 108)
        self.assertEqual(walk.setting(), [100, 105, 109])

    def test_goes_on_behind_a_refusal(self):
        walk = begun([100, None, None], TABLE)
        self.assert_refused(walk, 1, 109)
        walk.place(1, 108)
        self.assert_refused(walk, 2, 113)
        walk.place(2, 112)
        self.assertTrue(keeps_all(walk.setting(), BOUNDS))

    def test_refusal(self):
        walk = begun([100, None, None], TABLE)
        for kind in (errors.NoRoom, errors.WaitError, ValueError):
            with self.assertRaises(kind) as caught:
                walk.place(1, 0)
            self.assertIs(type(caught.exception), errors.NoRoom)
            self.assertNotIsInstance(caught.exception, OTHER_REFUSALS)


class Lift(Walks):
    def test_open_again(self):
        walk = begun([100, 105, 109], TABLE)
        walk.lift(1)
        self.assertEqual(walk.setting(), [100, None, 109])
        self.assertEqual(walk.room(1), (105, 108))
        self.assert_filling(walk, TABLE)
        walk.place(1, 108)
        walk.lift(0)
        self.assertEqual(walk.room(0), (100, 105))
        self.assertEqual(walk.setting(), [None, 108, 109])

    def test_open_before(self):
        walk = Walk(TABLE)
        walk.lift(0)
        self.assertEqual(answers(walk), answers(Walk(TABLE)))
        walk.place(1, 100)
        before = answers(walk)
        walk.lift(0)
        walk.lift(0)
        self.assertEqual(answers(walk), before)

    def test_all_lifted(self):
        walk = begun([100, 105, 109], TABLE)
        for x in (2, 0, 1):
            walk.lift(x)
        self.assertEqual(answers(walk), answers(Walk(TABLE)))
        walk.place(0, -BIG)

    def test_at_time_0(self):
        walk = Walk(wide(1))
        walk.place(0, 0)
        self.assertEqual((walk.setting(), walk.room(0)), ([0], (0, 0)))
        self.assert_refused(walk, 0, 1)
        walk.lift(0)
        self.assertEqual((walk.setting(), walk.room(0)), ([None], (None, None)))
        walk.place(0, 1)

    def test_as_if_never_placed(self):
        for place, (count, bounds) in enumerate(KEPT):
            draw = random.Random(place)
            table = table_of(count, bounds)
            walk = Walk(table)
            for k in range(count * 3):
                x = draw.randrange(count)
                if draw.randrange(3) == 0:
                    walk.lift(x)
                else:
                    walk.place(x, drawn_between(draw, *walk.room(x)))
                self.assertEqual(answers(walk), answers(begun(walk.setting(), table)))


class WholeWalks(Walks):
    def test_one_point(self):
        for bounds in ([], [(0, 0, 0)], [(0, 0, BIG)]):
            for time in (-BIG, 0, BIG):
                self.assert_to_the_end(1, bounds, [0], lambda low, high, time=time: time)

    def test_low_ends(self):
        self.assert_in_drawn_orders(lambda low, high: low if low is not None else 0 if high is None else high)

    def test_high_ends(self):
        self.assert_in_drawn_orders(lambda low, high: high if high is not None else 0 if low is None else low)

    def test_between(self):
        draw = random.Random(19)
        self.assert_in_drawn_orders(lambda low, high: drawn_between(draw, low, high))

    def assert_in_drawn_orders(self, choose):
        draw = random.Random(20)
        for count, bounds in KEPT[::3] + LONG + [(8, LINE), (8, [])]:
            self.assert_to_the_end(count, bounds, draw.sample(range(count), count), choose)

    def test_every_order_of_three(self):
        draw = random.Random(21)
        for bounds, order in itertools.product([BOUNDS] + SMALL[::7], itertools.permutations(range(3))):
            if table_of(3, bounds) is not None:
                self.assert_to_the_end(3, bounds, order, lambda low, high: drawn_between(draw, low, high))

    def test_just_the_schedules_that_keep_the_bounds_can_be_placed(self):
        for bounds, order in zip(SMALL[::9], itertools.cycle(itertools.permutations(range(3)))):
            table = table_of(3, bounds)
            if table is not None:
                for times in WINDOW[::5]:
                    self.assertEqual(self.can_be_placed(table, times, order), keeps_all(times, bounds))

    def can_be_placed(self, table, times, order):
        walk = Walk(table)
        try:
            for x in order:
                walk.place(x, times[x])
        except errors.NoRoom:
            return False
        self.assertEqual(walk.setting(), list(times))
        return True

    def test_each_number_of_a_room_may_be_placed_and_leaves_rooms(self):
        for setting in ([100, None, None], [None, 100, None], [None, None, 100]):
            for x in [x for x in range(3) if setting[x] is None]:
                low, high = begun(setting, TABLE).room(x)
                for time in range(low, high + 1):
                    walk = begun(setting, TABLE)
                    walk.place(x, time)
                    self.assertTrue(goes(BOUNDS, walk.setting()))
                    for other in range(3):
                        ends = walk.room(other)
                        self.assertLessEqual(ends[0], ends[1])

    def test_tells_what_the_rooms_tell(self):
        draw = random.Random(22)
        for count, bounds in KEPT[::3]:
            table = table_of(count, bounds)
            walk = Walk(table)
            for x in draw.sample(range(count), count):
                self.assertEqual([walk.room(y) for y in range(count)],
                                 [room(table, walk.setting(), y) for y in range(count)])
                self.assertEqual(walk.filling(), filling(table, walk.setting()))
                walk.place(x, drawn_between(draw, *walk.room(x)))


class OwnThings(Walks):
    def test_table_handed_in_stays(self):
        for table in (TABLE, wide(8), table_of(8, LINE)):
            own = copy.deepcopy(table)
            walk = Walk(own)
            walk.place(0, 5)
            walk.place(1, walk.filling()[1])
            with self.assertRaises(errors.NoRoom):
                walk.place(1, walk.filling()[1] + 1)
            walk.lift(0)
            answers(walk)
            self.assertEqual(own, table)

    def test_table_spoiled_behind_changes_no_answer(self):
        def change_entries(table):
            for row in table:
                row[:] = [None] * len(row)

        def change_rows(table):
            table[1] = [-1000, 0, -1000]

        for change in (spoil, change_entries, change_rows, list.clear):
            table = copy.deepcopy(TABLE)
            walk = begun([100, None, None], table)
            before = answers(walk)
            change(table)
            self.assertEqual(answers(walk), before)
            self.assert_refused(walk, 1, 102)
            walk.place(1, 103)
            self.assertEqual(walk.room(2), (104, 107))

    def test_told_setting_is_new_each_time(self):
        walk = begun([100, None, None], TABLE)
        before = answers(walk)
        one = walk.setting()
        other = walk.setting()
        one[1] = 0
        spoil(one)
        self.assertEqual(other, [100, None, None])
        self.assertEqual(answers(walk), before)

    def test_told_things_stay_when_the_walk_goes_on(self):
        walk = begun([100, None, None], TABLE)
        told = answers(walk)
        kept = copy.deepcopy(told)
        walk.place(1, 103)
        walk.place(2, 104)
        walk.lift(0)
        self.assertEqual(told, kept)

    def test_two_walks_do_not_touch_each_other(self):
        table = copy.deepcopy(TABLE)
        one = Walk(table)
        other = Walk(table)
        before = answers(other)
        one.place(0, 100)
        one.place(1, 103)
        self.assertEqual(answers(other), before)
        other.place(1, -50)
        other.place(2, -46)
        self.assertEqual(one.setting(), [100, 103, None])
        self.assertEqual(one.room(2), (104, 107))
        one.lift(1)
        self.assertEqual(other.setting(), [None, -50, -46])
        self.assertEqual(table, TABLE)

    def test_great_numbers(self):
        bounds = [(0, 1, BIG), (1, 0, 1 - BIG), (1, 2, BIG), (2, 1, -BIG)]
        walk = Walk(table_of(3, bounds))
        walk.place(0, BIG)
        self.assertEqual(walk.room(2), (3 * BIG - 1, 3 * BIG))
        self.assert_refused(walk, 2, 3 * BIG + 1)
        self.assert_refused(walk, 2, 3 * BIG - 2)
        walk.place(2, 3 * BIG - 1)
        self.assertEqual(walk.room(1), (2 * BIG - 1, 2 * BIG - 1))
        self.assertEqual(walk.filling(), (BIG, 2 * BIG - 1, 3 * BIG - 1))
