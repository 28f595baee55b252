"""Promises 14 and 15, and promises 2 and 3 as far as they speak of them: waithouse/picks.py."""

import itertools

from samples import (
    BIG, DRAWN, KEPT, LINE, LINE_SUM, MOST, SMALL, TORN, WINDOW, Case, asked, keeps_all, shortest_sums
)
from waithouse.picks import latest, reaching, some_times, soonest
from waithouse.rings import chain, ring
from waithouse.tables import lies, table_of, wide

TABLE = [[0, 8, 12], [-3, 0, 4], [-4, -1, 0]]


class SomeTimes(Case):
    def test_ordinary(self):
        told = asked(some_times, TABLE)
        self.assert_schedule(told, 3)
        self.assertTrue(lies(TABLE, told))

    def test_open_tables(self):
        for count in range(1, 9):
            self.assert_schedule(asked(some_times, wide(count)), count)

    def test_entries_none(self):
        # Points bound one way alone, and points not bound to each other at all.
        for bounds in ([(0, 1, -5)], [(1, 0, -5)], [(0, 1, -5), (2, 1, -7)], [(3, 1, BIG), (1, 2, -BIG)]):
            told = some_times(table=table_of(4, bounds))
            self.assert_schedule(told, 4)
            self.assertTrue(keeps_all(told, bounds))

    def test_empty_table(self):
        self.assertIs(some_times(None), None)

    def test_of_small_lists(self):
        for bounds in SMALL:
            told = some_times(table_of(3, bounds))
            if shortest_sums(3, bounds) is None:
                self.assertIs(told, None)
            else:
                self.assert_schedule(told, 3)
                self.assertTrue(keeps_all(told, bounds))

    def test_of_drawn_lists(self):
        for count, bounds in KEPT:
            table = table_of(count, bounds)
            told = asked(some_times, table)
            self.assert_schedule(told, count)
            self.assertTrue(keeps_all(told, bounds))
            self.assertTrue(lies(table, told))
        for count, bounds in TORN:
            self.assertIs(some_times(table_of(count, bounds)), None)

    def test_table_is_asked_anew(self):
        table = wide(2)
        some_times(table)
        table[0][1] = -5
        told = some_times(table)
        self.assertLessEqual(told[1] - told[0], -5)


class Reaching(Case):
    def assert_reaches(self, table, a, b, number):
        told = asked(reaching, table, a, b, number)
        self.assert_schedule(told, len(table))
        self.assertTrue(lies(table, told))
        self.assertGreaterEqual(told[b] - told[a], number)
        return told

    def test_at_the_entry_and_above_it(self):
        for a, b in itertools.permutations(range(3), 2):
            told = self.assert_reaches(TABLE, a, b, TABLE[a][b])
            self.assertEqual(told[b] - told[a], TABLE[a][b])
            self.assertIs(asked(reaching, TABLE, a, b, TABLE[a][b] + 1), None)
            self.assertIs(reaching(TABLE, a, b, BIG), None)

    def test_below_the_entry(self):
        for a, b in itertools.permutations(range(3), 2):
            for less in (1, 5, 100, BIG):
                self.assert_reaches(TABLE, a, b, TABLE[a][b] - less)

    def test_by_name(self):
        told = reaching(table=TABLE, a=0, b=1, number=8)
        self.assertEqual(told[1] - told[0], 8)

    def test_entry_none(self):
        table = table_of(3, [(0, 1, 5), (1, 2, 5)])
        for number in (0, 7, -BIG, BIG, 10 ** 600):
            self.assert_reaches(table, 1, 0, number)
            self.assert_reaches(table, 2, 0, number)
            self.assert_reaches(wide(8), 3, 6, number)

    def test_from_a_point_to_itself(self):
        for table in (TABLE, wide(1), wide(8), table_of(8, LINE)):
            for x in range(len(table)):
                for number in (0, -1, -BIG):
                    self.assert_reaches(table, x, x, number)
                for number in (1, BIG):
                    self.assertIs(asked(reaching, table, x, x, number), None)

    def test_empty_table(self):
        for number in (-BIG, 0, BIG):
            self.assertIs(reaching(None, 0, 1, number), None)
            self.assertIs(reaching(None, 0, 0, number), None)

    def test_of_small_lists(self):
        for bounds in SMALL[::3]:
            table = table_of(3, bounds)
            kept = [times for times in WINDOW if keeps_all(times, bounds)]
            for a, b, number in itertools.product(range(3), range(3), range(-MOST - 1, MOST + 2)):
                if any(times[b] - times[a] >= number for times in kept):
                    self.assert_reaches(table, a, b, number)
                else:
                    self.assertIs(reaching(table, a, b, number), None)


class TheWhole(Case):
    def test_chain_shows_that_none_has_more_and_a_schedule_has_it(self):
        for count, bounds in KEPT[::2]:
            table = table_of(count, bounds)
            for a, b in itertools.product(range(count), repeat=2):
                if table[a][b] is None:
                    told = reaching(table, a, b, BIG)
                    self.assertGreaterEqual(told[b] - told[a], BIG)
                else:
                    told = reaching(table, a, b, table[a][b])
                    self.assertEqual(told[b] - told[a], table[a][b])
                    places = chain(count, bounds, a, b)
                    self.assertEqual(sum(bounds[place][2] for place in places), table[a][b])
                self.assertTrue(keeps_all(told, bounds))

    def test_ring_where_no_schedule_keeps_them(self):
        for count, bounds in DRAWN:
            places = ring(count, bounds)
            if places is None:
                self.assertTrue(keeps_all(some_times(table_of(count, bounds)), bounds))
            else:
                self.assertIs(table_of(count, bounds), None)
                self.assertLess(sum(bounds[place][2] for place in places), 0)


class SoonestAndLatest(Case):
    def assert_times(self, told, wanted):
        self.assertEqual(told, wanted)
        self.assertIs(type(told), list)
        for time in told:
            self.assertIn(type(time), (int, type(None)))

    def test_ordinary(self):
        self.assert_times(asked(soonest, TABLE, 1, 100), [92, 100, 101])
        self.assert_times(asked(latest, TABLE, 1, 100), [97, 100, 104])
        self.assert_times(soonest(table=TABLE, a=0, time=-7), [-7, -4, -3])
        self.assert_times(latest(table=TABLE, a=0, time=-7), [-7, 1, 5])

    def test_none_where_there_is_no_least_or_no_greatest(self):
        table = table_of(3, [(0, 1, 5)])
        self.assert_times(soonest(table, 0, 10), [10, None, None])
        self.assert_times(latest(table, 0, 10), [10, 15, None])
        self.assert_times(soonest(table, 1, 10), [5, 10, None])
        self.assert_times(latest(table, 1, 10), [None, 10, None])
        self.assert_times(soonest(wide(1), 0, 3), [3])
        self.assert_times(latest(wide(1), 0, 3), [3])
        self.assert_times(soonest(wide(8), 7, 0), [None] * 7 + [0])
        self.assert_times(latest(wide(8), 7, 0), [None] * 7 + [0])

    def test_great_numbers(self):
        table = table_of(2, [(0, 1, BIG), (1, 0, BIG)])
        for time in (-BIG, 0, BIG):
            self.assert_times(soonest(table, 0, time), [time, time - BIG])
            self.assert_times(latest(table, 0, time), [time, time + BIG])

    def test_over_all_points(self):
        table = table_of(8, LINE + [(7, 0, -LINE_SUM)])
        wanted = [sum(10 ** k for k in range(x)) for x in range(8)]
        self.assert_times(soonest(table, 0, 0), wanted)
        self.assert_times(latest(table, 0, 0), wanted)
        self.assert_times(latest(table, 7, LINE_SUM), wanted)

    def test_least_and_greatest_by_the_very_words(self):
        for bounds in SMALL[::3]:
            kept = [times for times in WINDOW if keeps_all(times, bounds)]
            table = table_of(3, bounds)
            if table is None:
                continue
            for a in range(3):
                low = [min(times[x] - times[a] for times in kept) for x in range(3)]
                high = [max(times[x] - times[a] for times in kept) for x in range(3)]
                self.assert_times(soonest(table, a, 5), [5 + time if time >= -MOST else None for time in low])
                self.assert_times(latest(table, a, 5), [5 + time if time <= MOST else None for time in high])

    def assert_had_and_none_beyond(self, count, bounds, a, time, told, way):
        """Each time is had by a schedule with a at the time, and one more in the way's sense by none."""
        for x in range(count):
            if told[x] is None:
                far = way * BIG * 10
                self.assertIsNotNone(self.with_two(count, bounds, a, time, x, time + far))
            else:
                self.assertIsNotNone(self.with_two(count, bounds, a, time, x, told[x]))
                self.assertIsNone(self.with_two(count, bounds, a, time, x, told[x] + way))

    def with_two(self, count, bounds, a, time, x, other):
        return shortest_sums(count, bounds + [(a, x, other - time), (x, a, time - other)])

    def test_of_drawn_lists(self):
        for place, (count, bounds) in enumerate(KEPT[::4]):
            table = table_of(count, bounds)
            a = place % count
            for time in (-7, BIG):
                early = asked(soonest, table, a, time)
                late = asked(latest, table, a, time)
                self.assertEqual((early[a], late[a]), (time, time))
                self.assert_had_and_none_beyond(count, bounds, a, time, early, -1)
                self.assert_had_and_none_beyond(count, bounds, a, time, late, 1)

    def test_times_lie_in_the_table_where_none_is_none(self):
        seen = 0
        for count, bounds in KEPT:
            table = table_of(count, bounds)
            for a, tell in itertools.product(range(count), (soonest, latest)):
                told = tell(table, a, 3)
                if None not in told:
                    seen += 1
                    self.assertTrue(lies(table, tuple(told)))
                    self.assertTrue(keeps_all(told, bounds))
        self.assertGreater(seen, 200)

    def test_told_lists_are_new(self):
        for tell in (soonest, latest):
            for table in (TABLE, wide(1), wide(3), table_of(8, LINE)):
                own = [list(row) for row in table]
                self.assert_own(tell, own, 0, 0)
                self.assert_own(tell, own, 0, 5)
                self.assert_stays(tell, own, 0, 0)
