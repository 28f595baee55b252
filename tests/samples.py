"""What the tests share: drawn bounds, and plain ways to find what is asked, unlike those of the program."""

import copy
import itertools
import random
import unittest

# 300 figures, the most that is handed in; too great for 64 bits and for a float.
BIG = 10 ** 300 - 1

# Three points with bounds of at most 2: all times that matter lie well within this window round point 0.
REACH = 9
WINDOW = [(0, one, other) for one in range(-REACH, REACH + 1) for other in range(-REACH, REACH + 1)]
# A chain of at most two bounds of at most 2 comes to 4 at most, so a greater time means that there is no greatest.
MOST = 4


def keeps_all(times, bounds):
    return all(times[b] - times[a] <= c for a, b, c in bounds)


def shortest_sums(count, bounds):
    """The sums of shortest chains, found point by point and not bound by bound; None where a ring is below 0."""
    table = [[0 if a == b else None for b in range(count)] for a in range(count)]
    for a, b, c in bounds:
        if table[a][b] is None or c < table[a][b]:
            table[a][b] = c
    for way, a, b in itertools.product(range(count), repeat=3):
        one, other = table[a][way], table[way][b]
        if one is not None and other is not None and (table[a][b] is None or one + other < table[a][b]):
            table[a][b] = one + other
    return None if any(table[a][a] < 0 for a in range(count)) else table


def pinned(setting):
    """The bounds between each two points that have a time which keep them as far apart as their times are."""
    fixed = [x for x in range(len(setting)) if setting[x] is not None]
    return [(a, b, setting[b] - setting[a]) for a, b in itertools.product(fixed, repeat=2)]


def goes(bounds, setting):
    """Whether some schedule keeps the bounds and has the setting's times."""
    # Schedules that keep bounds keep them when moved, so only the times from set point to set point matter.
    return shortest_sums(len(setting), bounds + pinned(setting)) is not None


def with_time(setting, x, time):
    return [time if point == x else setting[point] for point in range(len(setting))]


def grounded(bounds, setting, now):
    """The bounds of all courses, with one point more, numbered as the count, that stands for the time 0."""
    ground = len(setting)
    found = list(bounds)
    for x, time in enumerate(setting):
        if time is None:
            found.append((x, ground, -now))
        else:
            found += [(ground, x, time), (x, ground, -time)]
    return found


def has_course(bounds, setting, now):
    """Whether some schedule keeps the bounds, has the setting's times, and has no open point below now."""
    return shortest_sums(len(setting) + 1, grounded(bounds, setting, now)) is not None


def drawn_between(draw, low, high):
    """A time from low to high, where None sets no end: an end itself, a time by it, or any between."""
    if low is None and high is None:
        return draw.choice((0, -7, BIG, draw.randint(-10 ** 6, 10 ** 6)))
    if high is None:
        return low + draw.choice((0, 1, 10 ** 6))
    if low is None:
        return high - draw.choice((0, 1, 10 ** 6))
    return draw.choice((low, high, draw.randint(low, high)))


def drawn_times(draw, count, bounds):
    """A schedule that keeps the bounds, drawn point by point; the sums of shortest chains are found anew for each."""
    times = [None] * count
    order = draw.sample(range(count), count)
    first = order[0]
    times[first] = drawn_between(draw, None, None)
    for x in order[1:]:
        sums = shortest_sums(count, bounds + pinned(times))
        low = None if sums[x][first] is None else times[first] - sums[x][first]
        high = None if sums[first][x] is None else times[first] + sums[first][x]
        times[x] = drawn_between(draw, low, high)
    return tuple(times)


def drawn_settings(seed):
    """Tuples (bounds, times, setting) of 1 to 8 points: a schedule that keeps the bounds, and a setting of its times.

    It has the times of no point up to all: half of the lists those that come first, else any.
    """
    draw = random.Random(seed)
    found = []
    for count, bounds in KEPT[::2]:
        times = drawn_times(draw, count, bounds)
        for much in sorted({0, 1, 2, count // 2, count - 1, count} & set(range(count + 1))):
            order = sorted(range(count), key=lambda x: times[x])
            fixed = draw.choice((order[:much], draw.sample(range(count), much)))
            found.append((bounds, times, [times[x] if x in fixed else None for x in range(count)]))
    return found


def seen_table(schedules):
    """The table of some schedules of the window, by the very words: the greatest time that any of them has."""
    if not schedules:
        return None
    greatest = [[max(times[b] - times[a] for times in schedules) for b in range(3)] for a in range(3)]
    return [[None if time > MOST else time for time in row] for row in greatest]


def small_lists():
    """Lists of bounds of three points with numbers of at most 2: all short ones of a kind, and drawn longer ones."""
    bounds = list(itertools.product(range(3), range(3), (-2, -1, 0, 2)))
    lists = [[]] + [[bound] for bound in bounds] + [list(pair) for pair in itertools.product(bounds[4:16], bounds)]
    draw = random.Random(5)
    for much in range(200):
        lists.append([(draw.randrange(3), draw.randrange(3), draw.randint(-2, 2)) for k in range(2 + much % 6)])
    return lists


def drawn_bound(draw, times, slack):
    a, b = draw.randrange(len(times)), draw.randrange(len(times))
    return (a, b, times[b] - times[a] + slack)


def drawn_lists():
    """Tuples (count, bounds) of 1 to 8 points and up to 120 bounds, kept by some schedule or by none."""
    draw = random.Random(12)
    found = []
    for count, size, much in itertools.product(range(1, 9), (3, 10 ** 6, BIG), (1, 4, 9, 14, 120)):
        times = [draw.randint(-size, size) for point in range(count)]
        kept = [drawn_bound(draw, times, draw.randint(0, size)) for k in range(much)]
        tight = [drawn_bound(draw, times, draw.choice((0, 0, 1))) for k in range(much)]
        torn = kept[:-1] + [drawn_bound(draw, times, -draw.randint(1, size))]
        free = [drawn_bound(draw, times, draw.randint(-size // 4, size)) for k in range(much)]
        found += [(count, kept), (count, tight), (count, torn), (count, free)]
    return found


SMALL = small_lists()
DRAWN = drawn_lists()
KEPT = [(count, bounds) for count, bounds in DRAWN if shortest_sums(count, bounds) is not None]
TORN = [(count, bounds) for count, bounds in DRAWN if shortest_sums(count, bounds) is None]

# All eight points one behind the other, and back again from the last one to the first.
LINE = [(k, k + 1, 10 ** k) for k in range(7)]
LINE_SUM = 1111111


def asked(tell, *handed):
    """What is told of the things handed in, and a fault where one of them is not as it was."""
    before = copy.deepcopy(handed)
    told = tell(*handed)
    if handed != before:
        raise AssertionError("something handed in was changed")
    return told


class Case(unittest.TestCase):
    def assert_whole(self, number):
        self.assertIs(type(number), int)

    def assert_table(self, told, wanted):
        self.assertEqual(told, wanted)
        if wanted is None:
            return
        self.assertIs(type(told), list)
        for row in told:
            self.assertIs(type(row), list)
            for entry in row:
                self.assertIn(type(entry), (int, type(None)))
        self.assertEqual(len({id(row) for row in told}), len(told))

    def assert_schedule(self, told, count):
        self.assertIs(type(told), tuple)
        self.assertEqual(len(told), count)
        for time in told:
            self.assert_whole(time)

    def assert_own(self, tell, *handed):
        """What is told is new: spoiling it changes no other answer, and nothing that was handed in."""
        before = copy.deepcopy(handed)
        first = tell(*handed)
        second = tell(*handed)
        wanted = copy.deepcopy(first)
        spoil(first)
        self.assertEqual(second, wanted)
        self.assertEqual(handed, before)
        self.assertEqual(tell(*handed), wanted)

    def assert_stays(self, tell, *handed):
        """What was told stays when what was handed in is spoiled behind."""
        told = tell(*handed)
        wanted = copy.deepcopy(told)
        for thing in handed:
            spoil(thing)
        self.assertEqual(told, wanted)

    def assert_links(self, count, bounds, places):
        """Places in range, each but the first beginning where the one ahead ends; tells their bounds."""
        self.assertIs(type(places), list)
        for place in places:
            self.assert_whole(place)
            self.assertIn(place, range(len(bounds)))
        found = [bounds[place] for place in places]
        for ahead, behind in zip(found, found[1:]):
            self.assertEqual(ahead[1], behind[0])
        return found

    def assert_ring(self, count, bounds, places):
        found = self.assert_links(count, bounds, places)
        self.assertIn(len(places), range(1, count + 1))
        self.assertEqual(found[0][0], found[-1][1])
        self.assertEqual(len({bound[0] for bound in found}), len(found))
        self.assertLess(sum(bound[2] for bound in found), 0)

    def assert_chain(self, count, bounds, a, b, places, entry):
        found = self.assert_links(count, bounds, places)
        self.assertIn(len(places), range(1, count))
        self.assertEqual((found[0][0], found[-1][1]), (a, b))
        self.assertEqual(sum(bound[2] for bound in found), entry)


def spoil(thing):
    """Changes a list, and each list within it; all else can't be changed."""
    if isinstance(thing, list):
        for part in thing:
            spoil(part)
        thing.append("spoiled")
        thing.reverse()
