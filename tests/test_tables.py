"""Promises 9, 10 and 11, and promise 2 as far as it speaks of them: waithouse/tables.py."""

import copy
import itertools
import random

from samples import (
    BIG, DRAWN, KEPT, LINE, LINE_SUM, SMALL, TORN, WINDOW, Case, asked, keeps_all, seen_table, shortest_sums
)
from waithouse.tables import held, lies, table_of, told_bounds, wide


class Wide(Case):
    def test_one_point(self):
        self.assert_table(wide(1), [[0]])

    def test_two_points(self):
        self.assert_table(wide(count=2), [[0, None], [None, 0]])

    def test_eight_points(self):
        told = wide(8)
        self.assert_table(told, [[0 if a == b else None for b in range(8)] for a in range(8)])

    def test_rows_are_lists_of_their_own(self):
        for count in (1, 2, 8):
            with self.subTest(count=count):
                self.assert_own(wide, count)
                told = wide(count)
                others = copy.deepcopy(told[1:])
                told[0][0] = 7
                told[0].append(8)
                self.assertEqual(told[1:], others)
                self.assertEqual(wide(count)[0][0], 0)


class Lies(Case):
    def test_at_and_just_above_each_entry(self):
        # Each entry alone: all others ask nothing.
        for a, b in itertools.permutations(range(4), 2):
            for entry in (-5, 0, 3, BIG, -BIG):
                table = wide(4)
                table[a][b] = entry
                times = [0, 100, -100, 7]
                times[b] = times[a] + entry
                with self.subTest(a=a, b=b):
                    self.assertIs(asked(lies, table, tuple(times)), True)
                    times[b] -= 1
                    self.assertIs(asked(lies, table, tuple(times)), True)
                    times[b] += 2
                    self.assertIs(asked(lies, table, tuple(times)), False)

    def test_entries_none_ask_nothing(self):
        table = [[0, 5, None], [None, 0, None], [None, None, 0]]
        self.assertIs(lies(table, (0, 5, BIG)), True)
        self.assertIs(lies(table, (0, -BIG, -BIG)), True)
        self.assertIs(lies(table, (0, 6, 0)), False)
        self.assertIs(lies([[None, None], [None, None]], (BIG, -BIG)), True)

    def test_drawn_table_that_no_function_told(self):
        # From 0 to 2 by way of 1 there is less time than the entry says, and no schedule has the entry's time.
        loose = [[0, 1, 100], [None, 0, 1], [None, None, 0]]
        self.assertIs(lies(loose, (0, 1, 2)), True)
        self.assertIs(lies(loose, (0, 1, 3)), False)
        self.assertIs(lies(loose, (0, 2, 2)), False)
        none_left = [[0, -1], [-1, 0]]
        for times in ((0, 0), (0, 1), (1, 0)):
            self.assertIs(lies(none_left, times), False)

    def test_drawn_entries_from_a_point_to_itself(self):
        self.assertIs(lies([[-1]], (0,)), False)
        self.assertIs(lies([[0]], (7,)), True)
        self.assertIs(lies([[1]], (7,)), True)
        self.assertIs(lies([[None]], (7,)), True)
        for x in range(3):
            table = [[None] * 3 for row in range(3)]
            table[x][x] = -1
            self.assertIs(lies(table, (0, 10, 20)), False)

    def test_drawn_tables_by_the_very_words(self):
        draw = random.Random(3)
        for k in range(60):
            table = [[draw.choice((None, None, -1, 0, 1, 2)) for b in range(3)] for a in range(3)]
            numbers = [(a, b, table[a][b]) for a in range(3) for b in range(3) if table[a][b] is not None]
            for times in WINDOW:
                if lies(table, times) is not keeps_all(times, numbers):
                    self.fail((table, times))

    def test_open_table(self):
        for times in ((0,), (BIG,), (0, BIG), tuple(range(0, -80, -10)), (BIG, -BIG) * 4):
            self.assertIs(asked(lies, wide(len(times)), times), True)

    def test_empty_table(self):
        self.assertIs(lies(None, (0,)), False)
        self.assertIs(lies(table=None, times=(0, 1, 2, 3, 4, 5, 6, 7)), False)

    def test_table_is_asked_anew(self):
        table = wide(2)
        self.assertIs(lies(table, (0, 5)), True)
        table[0][1] = 4
        self.assertIs(lies(table, (0, 5)), False)


class TableOf(Case):
    def test_no_bounds(self):
        for count in range(1, 9):
            self.assert_table(asked(table_of, count, []), wide(count))

    def test_ordinary(self):
        bounds = [(0, 1, 8), (1, 0, -3), (1, 2, 4), (2, 1, -1)]
        self.assert_table(table_of(3, bounds), [[0, 8, 12], [-3, 0, 4], [-4, -1, 0]])
        self.assert_table(table_of(count=2, bounds=[(1, 0, 5)]), [[0, None], [5, 0]])

    def test_from_a_point_to_itself(self):
        for count, x in ((1, 0), (3, 1), (8, 7)):
            for number in (0, 1, BIG):
                self.assert_table(table_of(count, [(x, x, number)]), wide(count))
            for number in (-1, -BIG):
                self.assertIs(table_of(count, [(x, x, number)]), None)
        self.assert_table(table_of(2, [(0, 1, 4), (1, 1, 0), (0, 0, 3)]), [[0, 4], [None, 0]])
        self.assertIs(table_of(2, [(0, 1, 4), (1, 1, 0), (0, 0, -1)]), None)
        self.assertIs(table_of(2, [(0, 0, -1), (0, 0, 1)]), None)

    def test_several_bounds_between_the_same_points(self):
        for numbers in itertools.permutations((5, 2, 9, 2)):
            bounds = [(0, 1, number) for number in numbers]
            self.assert_table(table_of(2, bounds), [[0, 2], [None, 0]])
            self.assert_table(table_of(2, bounds + [(1, 0, -2)]), [[0, 2], [-2, 0]])
            self.assertIs(table_of(2, bounds + [(1, 0, -3)]), None)

    def test_chains_over_all_points(self):
        lists = (LINE, LINE[::-1], LINE[3:] + LINE[:3], LINE[::2] + LINE[1::2])
        for bounds in lists:
            told = table_of(8, bounds)
            for a, b in itertools.product(range(8), repeat=2):
                wanted = sum(10 ** k for k in range(a, b)) if a <= b else None
                self.assertEqual(told[a][b], wanted)
            self.assertEqual(table_of(8, bounds + [(7, 0, -LINE_SUM)])[7][0], -LINE_SUM)
            self.assertEqual(table_of(8, [(7, 0, -LINE_SUM)] + bounds)[4][3], -1000)
            self.assertIs(table_of(8, bounds + [(7, 0, -LINE_SUM - 1)]), None)
            self.assertIs(table_of(8, [(7, 0, -LINE_SUM - 1)] + bounds), None)

    def test_shorter_by_way_of_others(self):
        self.assert_table(table_of(3, [(0, 2, 10), (0, 1, 4), (1, 2, 5)]), [[0, 4, 9], [None, 0, 5], [None, None, 0]])
        self.assert_table(table_of(3, [(0, 2, 8), (0, 1, 4), (1, 2, 5)]), [[0, 4, 8], [None, 0, 5], [None, None, 0]])

    def test_kept_by_none(self):
        self.assertIs(table_of(2, [(0, 1, 3), (1, 0, -4)]), None)
        self.assert_table(table_of(2, [(0, 1, 3), (1, 0, -3)]), [[0, 3], [-3, 0]])
        # None stays None, whatever stands behind.
        self.assertIs(table_of(3, [(0, 1, 3), (1, 0, -4), (1, 2, 7), (0, 1, 100), (2, 2, 0)]), None)

    def test_numbers_far_beyond_64_bits(self):
        bounds = [(0, 1, BIG), (1, 2, BIG), (2, 0, 1 - 2 * BIG)]
        told = table_of(3, bounds)
        self.assert_table(told, [[0, BIG, 2 * BIG], [1 - BIG, 0, BIG], [1 - 2 * BIG, 1 - BIG, 0]])
        self.assert_table(table_of(3, bounds[:2] + [(2, 0, -2 * BIG)])[2:], [[-2 * BIG, -BIG, 0]])
        self.assertIs(table_of(3, bounds[:2] + [(2, 0, -2 * BIG - 1)]), None)
        self.assertIs(table_of(2, [(0, 1, 2 ** 64), (1, 0, -2 ** 64 - 1)]), None)
        self.assert_table(table_of(2, [(0, 1, 2 ** 64 + 1), (0, 1, 2 ** 64)]), [[0, 2 ** 64], [None, 0]])

    def test_greatest_times_by_the_very_words(self):
        for bounds in SMALL:
            kept = [times for times in WINDOW if keeps_all(times, bounds)]
            told = asked(table_of, 3, bounds)
            if told != seen_table(kept):
                self.fail((bounds, told))

    def test_schedules_in_it_are_just_those_that_keep_all(self):
        for bounds in SMALL[::2]:
            told = table_of(3, bounds)
            for times in WINDOW:
                if lies(told, times) is not keeps_all(times, bounds):
                    self.fail((bounds, times))

    def test_drawn_lists(self):
        self.assertGreater(len(KEPT), 100)
        self.assertGreater(len(TORN), 100)
        for count, bounds in DRAWN:
            self.assert_table(asked(table_of, count, bounds), shortest_sums(count, bounds))

    def test_no_entry_is_above_the_sum_by_way_of_a_third_point(self):
        for count, bounds in KEPT:
            told = table_of(count, bounds)
            for x in range(count):
                self.assertEqual(told[x][x], 0)
            for a, b, c in itertools.product(range(count), repeat=3):
                if told[a][b] is not None and told[b][c] is not None:
                    self.assertLessEqual(told[a][c], told[a][b] + told[b][c])

    def test_order_of_the_list_does_not_matter(self):
        draw = random.Random(8)
        for count, bounds in DRAWN:
            mixed = list(bounds)
            draw.shuffle(mixed)
            self.assertEqual(table_of(count, mixed), table_of(count, bounds))
            self.assertEqual(table_of(count, bounds[::-1]), table_of(count, bounds))

    def test_told_table_is_new(self):
        for count, bounds in ((1, []), (8, []), (8, LINE), (2, [(0, 1, 3), (1, 0, -3)]), (2, [(1, 1, 0)])):
            self.assert_own(table_of, count, list(bounds))
            self.assert_stays(table_of, count, list(bounds))

    def test_changed_list_is_asked_anew(self):
        bounds = [(0, 1, 3)]
        table_of(2, bounds)
        bounds.append((0, 1, 2))
        self.assert_table(table_of(2, bounds), [[0, 2], [None, 0]])
        bounds.clear()
        self.assert_table(table_of(2, bounds), wide(2))


class Held(Case):
    TABLE = [[0, 8, 12], [-3, 0, 4], [-4, -1, 0]]

    def test_asks_nothing_new(self):
        for bound in ((0, 1, 8), (0, 1, 9), (2, 0, -4), (2, 0, BIG), (1, 1, 0), (2, 2, 5)):
            self.assert_table(asked(held, self.TABLE, bound), self.TABLE)
        self.assert_table(held(table=wide(1), bound=(0, 0, 0)), [[0]])

    def test_narrows(self):
        self.assert_table(asked(held, self.TABLE, (0, 1, 5)), [[0, 5, 9], [-3, 0, 4], [-4, -1, 0]])
        self.assert_table(asked(held, self.TABLE, (2, 0, -11)), [[0, 8, 12], [-7, 0, 4], [-11, -3, 0]])
        self.assert_table(asked(held, wide(2), (1, 0, -3)), [[0, None], [-3, 0]])

    def test_no_schedule_left(self):
        self.assert_table(held(self.TABLE, (0, 2, 4)), [[0, 3, 4], [-3, 0, 1], [-4, -1, 0]])
        for bound in ((0, 2, 3), (2, 0, -13), (1, 1, -1), (0, 1, 2), (0, 1, -BIG)):
            self.assertIs(asked(held, self.TABLE, bound), None)
        self.assertIs(held(wide(1), (0, 0, -1)), None)

    def test_of_the_empty_table(self):
        for bound in ((0, 1, 5), (1, 1, 0), (1, 1, -1)):
            self.assertIs(held(None, bound), None)

    def test_table_handed_in_stays(self):
        for bound in ((0, 1, 5), (0, 1, 8), (0, 1, 9), (0, 1, 2), (1, 1, 0)):
            table = copy.deepcopy(self.TABLE)
            rows = list(table)
            told = held(table, bound)
            self.assertEqual(table, self.TABLE)
            if told is not None:
                self.assertFalse({id(row) for row in told} & {id(row) for row in rows})

    def test_told_table_is_new(self):
        # Also where nothing is narrowed, and in rows that stay the same.
        for bound in ((0, 1, 5), (0, 1, 8), (0, 1, 9), (2, 0, -11), (1, 1, 0)):
            self.assert_own(held, copy.deepcopy(self.TABLE), bound)
            self.assert_stays(held, copy.deepcopy(self.TABLE), bound)
            self.assert_own(held, wide(3), bound)

    def test_of_small_tables_by_the_very_words(self):
        for bounds in SMALL[::3]:
            kept = [times for times in WINDOW if keeps_all(times, bounds)]
            table = table_of(3, bounds)
            for bound in ((0, 1, 1), (2, 1, -2), (1, 1, 0)):
                wanted = seen_table([times for times in kept if keeps_all(times, [bound])])
                told = held(table, bound)
                # The bound more has no greater number than the list's, so the window still holds what matters.
                if told != wanted:
                    self.fail((bounds, bound, told))

    def test_is_the_table_of_one_bound_more(self):
        for count, bounds in DRAWN:
            told = held(table_of(count, bounds[:-1]), bounds[-1])
            self.assert_table(told, shortest_sums(count, bounds))


class ToldBounds(Case):
    def test_which_and_their_order(self):
        table = [[0, 8, None], [-3, 0, 4], [None, 0, 0]]
        wanted = [(0, 1, 8), (1, 0, -3), (1, 2, 4), (2, 1, 0)]
        told = asked(told_bounds, table)
        self.assertEqual(told, wanted)
        self.assertIs(type(told), list)
        for bound in told:
            self.assertIs(type(bound), tuple)

    def test_open_tables_tell_none(self):
        for count in (1, 2, 8):
            self.assertEqual(told_bounds(table=wide(count)), [])

    def test_all_entries_of_eight_points(self):
        table = table_of(8, LINE + [(7, 0, 5)])
        wanted = [(a, b, table[a][b]) for a in range(8) for b in range(8) if a != b]
        self.assertEqual(told_bounds(table), wanted)
        self.assertEqual(len(wanted), 56)

    def test_drawn_tables(self):
        for count, bounds in KEPT:
            table = table_of(count, bounds)
            told = asked(told_bounds, table)
            self.assertEqual(told, sorted(told))
            pairs = [(a, b) for a, b, number in told]
            for a, b in itertools.product(range(count), repeat=2):
                self.assertEqual((a, b) in pairs, a != b and table[a][b] is not None)
            self.assertEqual(len(pairs), len(set(pairs)))
            for a, b, number in told:
                self.assertEqual(number, table[a][b])
            self.assertEqual(table_of(count, told), table)

    def test_told_list_is_new(self):
        for table in (wide(1), wide(2), table_of(8, LINE), [[0, 8], [-3, 0]]):
            self.assert_own(told_bounds, table)
            self.assert_stays(told_bounds, table)
