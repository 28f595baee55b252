"""Promise 16, and promise 2 as far as it speaks of it: waithouse/spans.py."""

import itertools

from samples import BIG, KEPT, LINE, SMALL, WINDOW, Case, asked, keeps_all, shortest_sums
from waithouse.spans import shortest, span
from waithouse.tables import lies, table_of, wide


class Span(Case):
    def test_of_one_point(self):
        for time in (0, 7, -7, BIG, -BIG):
            self.assertEqual(span((time,)), 0)
            self.assert_whole(span((time,)))

    def test_of_several(self):
        self.assertEqual(span((3, 10)), 7)
        self.assertEqual(span((10, 3)), 7)
        self.assertEqual(span((5, 5, 5)), 0)
        self.assertEqual(span(times=(-4, -9, -6)), 5)
        self.assertEqual(span((5, -3, 0, 17, 5, -20, 1, 2)), 37)
        self.assertEqual(span((0, -3)), 3)

    def test_great_numbers(self):
        self.assertEqual(span((BIG, 0, -BIG)), 2 * BIG)
        self.assertEqual(span((2 ** 64, 2 ** 64 + 1)), 1)

    def test_of_all_small_schedules(self):
        for times in itertools.product((-2, 0, 3), repeat=3):
            self.assertEqual(span(times), max(b - a for a, b in itertools.product(times, repeat=2)))


class Shortest(Case):
    def assert_shortest(self, table, wanted):
        told = asked(shortest, table)
        self.assertIs(type(told), tuple)
        self.assertEqual(len(told), 2)
        self.assert_whole(told[0])
        self.assertEqual(told[0], wanted)
        self.assert_schedule(told[1], len(table))
        self.assertTrue(lies(table, told[1]))
        self.assertEqual(max(told[1]) - min(told[1]), wanted)

    def test_open_tables(self):
        for count in range(1, 9):
            self.assert_shortest(wide(count), 0)

    def test_ordinary(self):
        self.assert_shortest([[0, 8, 12], [-3, 0, 4], [-4, -1, 0]], 4)
        self.assertEqual(shortest(table=table_of(2, [(0, 1, -5)]))[0], 5)
        self.assertEqual(shortest(table_of(2, [(1, 0, -5)]))[0], 5)

    def test_all_at_one_time(self):
        self.assert_shortest(table_of(3, [(0, 1, 5), (1, 2, 0)]), 0)

    def test_several_that_must_lie_apart(self):
        # Two pairs that are not bound to each other lie side by side, and the longer one tells the span.
        self.assert_shortest(table_of(4, [(1, 0, -5), (3, 2, -9)]), 9)
        # One behind the other, so the two come together.
        self.assert_shortest(table_of(4, [(1, 0, -5), (3, 1, -9)]), 14)
        # One point far behind two that lie apart.
        self.assert_shortest(table_of(3, [(1, 0, -5), (2, 0, -5), (1, 2, -2)]), 7)

    def test_over_all_points(self):
        back = [(b, a, -number) for a, b, number in LINE]
        self.assert_shortest(table_of(8, back), 1111111)
        self.assert_shortest(table_of(8, LINE + back), 1111111)
        self.assert_shortest(table_of(8, LINE), 0)

    def test_great_numbers(self):
        self.assert_shortest(table_of(3, [(0, 1, -BIG), (1, 2, -BIG)]), 2 * BIG)
        self.assert_shortest(table_of(3, [(0, 1, -BIG), (2, 1, 1 - BIG)]), BIG)

    def test_least_span_by_the_very_words(self):
        for bounds in SMALL:
            table = table_of(3, bounds)
            if table is not None:
                self.assert_shortest(table, min(max(t) - min(t) for t in WINDOW if keeps_all(t, bounds)))

    def test_of_drawn_lists(self):
        for count, bounds in KEPT:
            table = table_of(count, bounds)
            told = shortest(table)
            self.assert_shortest(table, told[0])
            self.assertTrue(keeps_all(told[1], bounds))
            # No two points lie farther apart than one less: that no schedule keeps.
            pairs = list(itertools.product(range(count), repeat=2))
            self.assertIsNotNone(shortest_sums(count, bounds + [(a, b, told[0]) for a, b in pairs]))
            self.assertIsNone(shortest_sums(count, bounds + [(a, b, told[0] - 1) for a, b in pairs]))
