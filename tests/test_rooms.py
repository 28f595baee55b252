"""Promise 18, and promise 2 as far as it speaks of it: waithouse/rooms.py."""

import itertools

from samples import BIG, LINE, LINE_SUM, MOST, SMALL, WINDOW, Case, asked, drawn_settings, goes, keeps_all, with_time
from waithouse.rooms import filling, room
from waithouse.tables import lies, table_of, wide

TABLE = [[0, 8, 12], [-3, 0, 4], [-4, -1, 0]]
SETTINGS = [(bounds, setting) for bounds, times, setting in drawn_settings(18)]


class Rooms(Case):
    def assert_room(self, told, wanted):
        self.assertEqual(told, wanted)
        self.assertIs(type(told), tuple)
        for end in told:
            self.assertIn(type(end), (int, type(None)))


class Room(Rooms):
    def test_no_time_set(self):
        for table in (TABLE, wide(1), wide(8), table_of(8, LINE), table_of(2, [(0, 1, 5), (1, 0, -5)])):
            for x in range(len(table)):
                self.assert_room(asked(room, table, [None] * len(table), x), (None, None))

    def test_one_time_set(self):
        self.assert_room(asked(room, TABLE, [100, None, None], 1), (103, 108))
        self.assert_room(asked(room, TABLE, [100, None, None], 2), (104, 112))
        self.assert_room(asked(room, TABLE, [None, 100, None], 0), (92, 97))
        self.assert_room(asked(room, TABLE, [None, -100, None], 2), (-99, -96))
        self.assert_room(asked(room, TABLE, [None, None, 0], 0), (-12, -4))
        self.assert_room(room(table=TABLE, setting=[None, None, 0], x=1), (-4, -1))

    def test_several_times_set(self):
        # In each of these the ends are told by other ones of the set points.
        self.assert_room(asked(room, TABLE, [100, None, 104], 1), (103, 103))
        self.assert_room(asked(room, TABLE, [100, None, 109], 1), (105, 108))
        self.assert_room(asked(room, TABLE, [100, None, 112], 1), (108, 108))
        self.assert_room(asked(room, TABLE, [0, 5, None], 2), (6, 9))
        self.assert_room(asked(room, TABLE, [None, 5, 7], 0), (-3, 2))

    def test_one_end_none(self):
        table = table_of(3, [(0, 1, 5)])
        self.assert_room(asked(room, table, [10, None, None], 1), (None, 15))
        self.assert_room(asked(room, table, [None, 10, None], 0), (5, None))
        self.assert_room(asked(room, table, [None, 10, 7], 0), (5, None))
        self.assert_room(asked(room, table, [10, None, 7], 1), (None, 15))

    def test_both_ends_none_beside_set_points(self):
        table = table_of(3, [(0, 1, 5)])
        self.assert_room(asked(room, table, [10, None, None], 2), (None, None))
        self.assert_room(asked(room, table, [10, 12, None], 2), (None, None))
        self.assert_room(asked(room, wide(8), [0, 1, 2, 3, None, 5, 6, 7], 4), (None, None))

    def test_ends_from_unlike_points(self):
        # The one point tells only a least time, the other only a greatest one.
        table = table_of(3, [(1, 0, -5), (2, 1, 9)])
        self.assert_room(asked(room, table, [100, None, 200], 1), (105, 209))
        # Both tell a least time, and the greater of the two holds.
        table = table_of(3, [(1, 0, -5), (1, 2, -9)])
        self.assert_room(asked(room, table, [0, None, 1], 1), (10, None))
        self.assert_room(asked(room, table, [20, None, 1], 1), (25, None))

    def test_time_0_is_a_time(self):
        self.assert_room(asked(room, TABLE, [0, None, None], 1), (3, 8))
        self.assert_room(asked(room, TABLE, [0, None, None], 0), (0, 0))
        self.assert_room(asked(room, wide(2), [0, None], 0), (0, 0))

    def test_of_a_point_that_is_not_open(self):
        for setting in ([100, 105, 106], [100, None, 106], [100, 105, None]):
            self.assert_room(asked(room, TABLE, setting, 0), (100, 100))
        self.assert_room(room(TABLE, [100, 105, 109], 2), (109, 109))
        self.assert_room(room(wide(1), [-7], 0), (-7, -7))
        self.assert_room(room(wide(8), [BIG] * 8, 3), (BIG, BIG))

    def test_over_all_points(self):
        table = table_of(8, LINE)
        first = [1000] + [None] * 7
        highs = [1000, 1001, 1011, 1111, 2111, 12111, 112111, 1000 + LINE_SUM]
        self.assertEqual([room(table, first, x) for x in range(1, 8)], [(None, high) for high in highs[1:]])
        last = [None] * 7 + [1000 + LINE_SUM]
        self.assertEqual([room(table, last, x) for x in range(7)], [(low, None) for low in highs[:-1]])

    def test_great_numbers(self):
        table = table_of(3, [(0, 1, BIG), (1, 0, BIG), (1, 2, BIG), (2, 1, 1 - BIG)])
        self.assert_room(asked(room, table, [BIG, None, None], 1), (0, 2 * BIG))
        self.assert_room(asked(room, table, [BIG, None, None], 2), (BIG - 1, 3 * BIG))
        self.assert_room(asked(room, table, [-BIG, None, 5 - BIG], 1), (5 - 2 * BIG, 6 - 2 * BIG))

    def test_asked_anew(self):
        table = table_of(2, [(0, 1, 5)])
        setting = [10, None]
        self.assert_room(room(table, setting, 1), (None, 15))
        table[0][1] = 3
        setting[0] = 20
        self.assert_room(room(table, setting, 1), (None, 23))
        setting[0] = None
        self.assert_room(room(table, setting, 1), (None, None))


class RoomByTheVeryWords(Rooms):
    def test_small_lists(self):
        for bounds in SMALL[::3]:
            kept = [times for times in WINDOW if keeps_all(times, bounds)]
            if kept:
                self.assert_beside_one(table_of(3, bounds), kept)
                self.assert_beside_two(table_of(3, bounds), kept)

    def assert_beside_one(self, table, kept):
        for p, x in itertools.product(range(3), repeat=2):
            ways = [times[x] - times[p] for times in kept]
            wanted = (
                5 + min(ways) if min(ways) >= -MOST else None,
                5 + max(ways) if max(ways) <= MOST else None,
            )
            self.assert_room(room(table, with_time([None] * 3, p, 5), x), wanted)

    def assert_beside_two(self, table, kept):
        for x, time in itertools.product((1, 2), range(-MOST, MOST + 1)):
            setting = with_time([0, None, None], 3 - x, time)
            beside = [times[x] for times in kept if times[3 - x] == time]
            if beside:
                # Both set times lie within MOST of 0, so an end that a bound tells lies within twice as much.
                wanted = (
                    min(beside) if min(beside) >= -2 * MOST else None,
                    max(beside) if max(beside) <= 2 * MOST else None,
                )
                self.assert_room(room(table, setting, x), wanted)

    def test_ends_are_had_and_none_beyond(self):
        seen = {True: 0, False: 0}
        for bounds, setting in SETTINGS:
            table = table_of(len(setting), bounds)
            for x in range(len(setting)):
                told = asked(room, table, setting, x)
                if setting[x] is not None:
                    self.assert_room(told, (setting[x], setting[x]))
                    continue
                for end, way in zip(told, (-1, 1)):
                    seen[end is None] += 1
                    self.assert_end(bounds, setting, x, end, way)
        self.assertGreater(min(seen.values()), 200)

    def assert_end(self, bounds, setting, x, end, way):
        """The end is had by a schedule, and one beyond by none; where it is None, however far a time is had."""
        if end is None:
            self.assertTrue(goes(bounds, with_time(setting, x, way * BIG ** 2)))
        else:
            self.assert_whole(end)
            self.assertTrue(goes(bounds, with_time(setting, x, end)))
            self.assertFalse(goes(bounds, with_time(setting, x, end + way)))


class Filling(Case):
    def assert_fills(self, table, setting):
        told = asked(filling, table, setting)
        self.assert_schedule(told, len(table))
        self.assertTrue(lies(table, told))
        for x in range(len(table)):
            if setting[x] is not None:
                self.assertEqual(told[x], setting[x])
        return told

    def test_without_times(self):
        for table in (TABLE, wide(1), wide(8), table_of(8, LINE), table_of(2, [(0, 1, -BIG)])):
            self.assert_fills(table, [None] * len(table))

    def test_with_some(self):
        for setting in ([100, None, None], [None, 0, None], [None, None, -7], [0, 8, None], [0, None, 4], [None, 0, 4]):
            self.assert_fills(TABLE, setting)
        self.assert_fills(wide(8), [None, 5, None, -BIG, BIG, None, 0, None])
        self.assertEqual(filling(table=table_of(2, [(0, 1, 5), (1, 0, -5)]), setting=[None, 7]), (2, 7))

    def test_one_end_none(self):
        # The open point is bound from one side alone, ahead of or behind the set one in the order of points.
        for bounds in ([(0, 1, -5)], [(1, 0, -5)], [(0, 1, 5)], [(1, 0, 5)]):
            for setting in ([100, None], [None, 100], [0, None], [None, -BIG]):
                self.assert_fills(table_of(2, bounds), setting)

    def test_open_points_bound_to_each_other_alone(self):
        table = table_of(4, [(1, 3, -5), (3, 1, 9)])
        for setting in ([7, None, 7, None], [7, None, None, None], [None, None, -BIG, None]):
            self.assert_fills(table, setting)

    def test_with_all(self):
        self.assertEqual(self.assert_fills(TABLE, [100, 105, 109]), (100, 105, 109))
        self.assertEqual(self.assert_fills(wide(1), [-BIG]), (-BIG,))
        self.assertEqual(self.assert_fills(wide(8), [0, 7, 0, -7, BIG, 1, 2, 3]), (0, 7, 0, -7, BIG, 1, 2, 3))

    def test_small_lists(self):
        for bounds in SMALL[::3]:
            table = table_of(3, bounds)
            for times in [times for times in WINDOW if keeps_all(times, bounds)][::20]:
                for fixed in itertools.product((True, False), repeat=3):
                    self.assert_fills(table, [times[x] if fixed[x] else None for x in range(3)])

    def test_drawn_lists(self):
        for bounds, setting in SETTINGS:
            told = self.assert_fills(table_of(len(setting), bounds), setting)
            self.assertTrue(keeps_all(told, bounds))

    def test_setting_handed_in_is_not_kept(self):
        setting = [100, None, None]
        self.assert_own(filling, TABLE, setting)
        self.assert_stays(filling, [list(row) for row in TABLE], setting)
