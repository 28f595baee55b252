"""Promise 17, and promise 2 as far as it speaks of it: waithouse/compare.py."""

import itertools
import random

from samples import BIG, DRAWN, KEPT, LINE, SMALL, TORN, WINDOW, Case, asked, keeps_all, shortest_sums
from waithouse.compare import apart, within
from waithouse.tables import held, lies, table_of, told_bounds, wide


def distinct_small():
    """Of each table of the small lists one list, with the schedules of the window that keep it."""
    found = {}
    for bounds in SMALL:
        found.setdefault(repr(shortest_sums(3, bounds)), bounds)
    lists = list(found.values())
    return [(bounds, {times for times in WINDOW if keeps_all(times, bounds)}) for bounds in lists]


def entries_within(one, other):
    """Whether each greatest time of the one is no more than that of the other."""
    if one is None or other is None:
        return one is None
    pairs = [(one[a][b], other[a][b]) for a, b in itertools.product(range(len(one)), repeat=2)]
    return all(limit is None or (entry is not None and entry <= limit) for entry, limit in pairs)


class Compared(Case):
    def assert_apart(self, one, other):
        told = asked(apart, one, other)
        self.assert_schedule(told, len(one))
        self.assertTrue(lies(one, told))
        self.assertFalse(lies(other, told))
        self.assertIs(asked(within, one, other), False)
        return told

    def assert_within(self, one, other):
        self.assertIs(asked(apart, one, other), None)
        self.assertIs(asked(within, one, other), True)

    def assert_equal_tables(self, one, other):
        self.assert_within(one, other)
        self.assert_within(other, one)
        self.assertEqual(one, other)


class Apart(Compared):
    def test_one_within_the_other(self):
        narrow = table_of(3, [(0, 1, 4), (1, 2, 1), (2, 0, -2)])
        broad = table_of(3, [(0, 1, 5), (1, 2, 1), (2, 0, -2)])
        self.assert_within(narrow, broad)
        told = self.assert_apart(broad, narrow)
        self.assertEqual(told[1] - told[0], 5)

    def test_each_single_entry_that_is_greater_by_one(self):
        table = table_of(3, [(0, 1, 8), (1, 0, -3), (1, 2, 4), (2, 1, -1), (0, 2, 10), (2, 0, -5)])
        for a, b, number in told_bounds(table):
            narrow = held(table, (a, b, number - 1))
            told = self.assert_apart(table, narrow)
            self.assertEqual(told[b] - told[a], number)
            self.assert_within(narrow, table)

    def test_neither_within_the_other(self):
        one = table_of(2, [(0, 1, 5), (1, 0, 0)])
        other = table_of(2, [(0, 1, 9), (1, 0, -3)])
        told = self.assert_apart(one, other)
        self.assertLess(told[1] - told[0], 3)
        told = self.assert_apart(other, one)
        self.assertGreater(told[1] - told[0], 5)

    def test_without_a_schedule_in_both(self):
        one = table_of(2, [(0, 1, 5)])
        other = table_of(2, [(1, 0, -6)])
        self.assert_apart(one, other)
        self.assert_apart(other, one)

    def test_equal_tables(self):
        for bounds in ([], [(0, 1, 5)], [(0, 1, 5), (1, 0, -5)], [(2, 1, -7), (0, 2, 3)]):
            self.assert_equal_tables(table_of(3, bounds), table_of(3, bounds))
        table = table_of(3, [(0, 1, 5)])
        self.assert_within(table, table)

    def test_open_table(self):
        for count in range(1, 9):
            self.assert_equal_tables(wide(count), wide(count))
        for count in range(2, 9):
            for number in (-3, 0, 7):
                narrow = table_of(count, [(0, count - 1, number)])
                self.assert_within(narrow, wide(count))
                told = self.assert_apart(wide(count), narrow)
                self.assertGreater(told[count - 1] - told[0], number)

    def test_one_point(self):
        # A bound from the point to itself leaves all schedules or none.
        self.assert_equal_tables(table_of(1, [(0, 0, 0)]), wide(1))
        self.assert_apart(wide(1), table_of(1, [(0, 0, -1)]))

    def test_none_against_a_number(self):
        one = table_of(3, [(0, 1, 5)])
        other = table_of(3, [(0, 1, 9), (1, 2, 9)])
        told = self.assert_apart(one, other)
        self.assertTrue(told[2] - told[1] > 9 or told[2] - told[0] > 18)
        # Both have None where the other one has a number.
        self.assert_apart(other, one)
        self.assert_within(table_of(3, [(0, 1, 5), (1, 2, 4)]), one)

    def test_by_name(self):
        one = table_of(2, [(0, 1, 5)])
        self.assertIs(apart(one=one, other=wide(2)), None)
        self.assertIs(within(one=one, other=wide(2)), True)
        self.assertIs(within(one=wide(2), other=one), False)

    def test_great_numbers(self):
        one = table_of(3, [(0, 1, BIG), (1, 2, BIG), (2, 0, -BIG)])
        other = table_of(3, [(0, 1, BIG), (1, 2, BIG), (2, 0, -BIG), (0, 2, 2 * BIG - 1)])
        self.assert_within(other, one)
        told = self.assert_apart(one, other)
        self.assertEqual(told[2] - told[0], 2 * BIG)
        for number in (BIG, -BIG, 2 ** 64, 2 ** 53):
            self.assert_within(table_of(2, [(0, 1, number)]), table_of(2, [(0, 1, number + 1)]))
            self.assert_apart(table_of(2, [(0, 1, number + 1)]), table_of(2, [(0, 1, number)]))


class EmptyTable(Compared):
    def test_from_the_empty_table(self):
        for other in (None, wide(1), wide(8), table_of(2, [(0, 1, 5)])):
            self.assert_within(None, other)

    def test_to_the_empty_table(self):
        for one in (wide(1), wide(8), table_of(2, [(0, 1, 5)]), table_of(8, LINE), table_of(2, [(0, 1, -BIG)])):
            self.assert_apart(one, None)

    def test_equal(self):
        self.assert_equal_tables(None, None)
        self.assert_equal_tables(table_of(2, [(0, 1, -1), (1, 0, 0)]), table_of(2, [(1, 1, -1)]))


class OfLists(Compared):
    def test_small_lists_by_the_very_words(self):
        found = distinct_small()
        seen = {True: 0, False: 0}
        for (one, kept), (other, others) in itertools.product(found, found[::3]):
            told = apart(table_of(3, one), table_of(3, other))
            seen[kept <= others] += 1
            if kept <= others:
                self.assertIs(told, None)
            else:
                self.assert_schedule(told, 3)
                self.assertTrue(keeps_all(told, one))
                self.assertFalse(keeps_all(told, other))
            self.assertIs(within(table_of(3, one), table_of(3, other)), kept <= others)
        self.assertGreater(min(seen.values()), 200)

    def test_drawn_lists(self):
        draw = random.Random(17)
        seen = {True: 0, False: 0}
        for count, one in DRAWN:
            others = [bounds for much, bounds in DRAWN if much == count]
            shorter = one[:draw.randrange(len(one) + 1)]
            for other in draw.sample(others, 3) + [one[1:], shorter, one]:
                tables = table_of(count, one), table_of(count, other)
                fits = entries_within(shortest_sums(count, one), shortest_sums(count, other))
                seen[fits] += 1
                if fits:
                    self.assert_within(*tables)
                else:
                    told = self.assert_apart(*tables)
                    self.assertTrue(keeps_all(told, one))
                    self.assertFalse(keeps_all(told, other))
        self.assertGreater(min(seen.values()), 200)

    def test_lists_in_another_order_have_equal_tables(self):
        draw = random.Random(18)
        for count, bounds in KEPT + TORN:
            other = list(bounds)
            draw.shuffle(other)
            self.assert_equal_tables(table_of(count, bounds), table_of(count, other))
            self.assert_equal_tables(table_of(count, bounds), table_of(count, bounds[::-1] + bounds))

    def test_told_bounds_have_the_same_table(self):
        for count, bounds in KEPT:
            table = table_of(count, bounds)
            self.assert_equal_tables(table, table_of(count, told_bounds(table)))

    def test_two_within_each_other_are_equal(self):
        tables = [table_of(3, bounds) for bounds, kept in distinct_small()]
        for one, other in itertools.product(tables[::2], tables[::5]):
            self.assertIs(within(one, other) and within(other, one), one == other)


class HandedIn(Compared):
    def test_tables_are_asked_anew(self):
        one = table_of(2, [(0, 1, 5)])
        other = table_of(2, [(0, 1, 7)])
        self.assert_within(one, other)
        other[0][1] = 4
        self.assert_apart(one, other)
        one[0][1] = 3
        self.assert_within(one, other)

    def test_the_same_is_told_again(self):
        for count, bounds in KEPT[::4]:
            table = table_of(count, bounds)
            self.assert_own(apart, wide(count), table)
            self.assert_own(apart, table, None)
            self.assert_stays(apart, wide(count), table)
