"""Promises 23 and 24, and promise 2 as far as it speaks of them: waithouse/houses.py."""

import copy
import itertools
import random

from samples import BIG, WINDOW, Case, keeps_all, seen_table, shortest_sums, spoil
from waithouse import errors
from waithouse.houses import House
from waithouse.tables import wide

# All signs that a name may hold, from the blank to the tilde.
SIGNS = "".join(chr(number) for number in range(32, 127))
NAMES = [" ", "~", "a", "A", "  ", "a b", " a b ", "%", "{a}", "'", '"', "\\", "0", "-1", "None", "high", "low"]
NAMES += [SIGNS[k:k + 30] for k in range(0, len(SIGNS), 15)] + ["x" * 30, " " * 30]
OTHER_REFUSALS = (errors.NoLink, errors.NoRoom, errors.NoTime, errors.NoKeep, errors.NoRow)

# Point 1 comes 3 to 8 behind point 0, and point 2 1 to 4 behind point 1.
TEA = [("boil", (0, 1, 3, 8)), ("pour", (1, 2, 1, 4))]
TEA_TABLE = [[0, 8, 12], [-3, 0, 4], [-4, -1, 0]]


def built(count, gaps):
    """A house with gaps, each a tuple (name, gap)."""
    house = House(count)
    for name, gap in gaps:
        house.add(name, *gap)
    return house


def named_bounds(gaps):
    """The bounds of gaps by the words of 7 and 23: a dict of the bounds by their names, in their order."""
    found = {}
    for name, (a, b, low, high) in gaps:
        if high is not None:
            found[(name, "high")] = (a, b, high)
        if low is not None:
            found[(name, "low")] = (b, a, -low)
    return found


def answers(house):
    """All that a house of three points tells."""
    names = house.names()
    pairs = itertools.product(range(3), repeat=2)
    return (
        names, [house.gap(name) for name in names], house.table(), house.ring(),
        [house.chain(a, b) for a, b in pairs], [house.idle(name) for name in names],
    )


def drawn_gap(draw, times, size, slack):
    """A gap between two points, some schedule's times or somewhat beside them in it; an end may be None."""
    a, b = draw.randrange(len(times)), draw.randrange(len(times))
    time = times[b] - times[a]
    low = time - draw.randint(-slack, size)
    high = time + draw.randint(-slack, size)
    shape = draw.randrange(8)
    return (a, b, None if shape in (0, 1) else low, None if shape in (1, 2, 3) else high)


def drawn_houses():
    """Tuples (count, gaps) of 1 to 8 points and up to 20 gaps, kept by some schedule or by none."""
    draw = random.Random(24)
    found = []
    for count, size, much in itertools.product(range(1, 9), (4, BIG // 4), (1, 3, 8, 20)):
        times = [draw.randint(-size, size) for point in range(count)]
        for slack in (0, 0, 1, size // 2):
            names = draw.sample(NAMES + [f"gap {k}" for k in range(60)], much)
            found.append((count, [(name, drawn_gap(draw, times, size, slack)) for name in names]))
    return found


HOUSES = drawn_houses()


class Houses(Case):
    def assert_refused(self, house, do):
        """What is done to a house of three points is refused with NoName, and nothing has changed."""
        before = answers(house)
        with self.assertRaises(errors.NoName) as caught:
            do()
        self.assertIs(type(caught.exception), errors.NoName)
        self.assertEqual(answers(house), before)

    def places(self, gaps, names):
        """The places of the house's bounds that the names tell."""
        self.assertIs(type(names), list)
        for name in names:
            self.assertIs(type(name), tuple)
            self.assertEqual(len(name), 2)
        order = list(named_bounds(gaps))
        return [order.index(name) for name in names]

    def assert_tells(self, house, count, gaps):
        """All that the house tells is told by these gaps, in this order."""
        bounds = list(named_bounds(gaps).values())
        table = shortest_sums(count, bounds)
        self.assertEqual(house.names(), [name for name, gap in gaps])
        self.assertEqual([house.gap(name) for name, gap in gaps], [gap for name, gap in gaps])
        self.assert_table(house.table(), table)
        self.assert_house_ring(house, count, gaps, table)
        self.assert_house_chains(house, count, gaps, table)
        self.assert_idle_ones(house, count, gaps, table)

    def assert_house_ring(self, house, count, gaps, table):
        told = house.ring()
        if table is not None:
            self.assertIs(told, None)
        else:
            self.assert_ring(count, list(named_bounds(gaps).values()), self.places(gaps, told))

    def assert_house_chains(self, house, count, gaps, table):
        bounds = list(named_bounds(gaps).values())
        for a, b in itertools.product(range(count), repeat=2):
            told = house.chain(a, b)
            if table is None or table[a][b] is None:
                self.assertIs(told, None)
            elif a == b:
                self.assertEqual(told, [])
                self.assertIs(type(told), list)
            else:
                self.assert_chain(count, bounds, a, b, self.places(gaps, told), table[a][b])

    def assert_idle_ones(self, house, count, gaps, table):
        for name, gap in gaps:
            others = [other for other in gaps if other[0] != name]
            wanted = shortest_sums(count, list(named_bounds(others).values())) == table
            self.assertIs(house.idle(name), wanted)


class Names(Houses):
    def test_none_at_first(self):
        for count in range(1, 9):
            house = House(count)
            self.assertEqual(house.names(), [])
            self.assertIs(type(house.names()), list)
            self.assert_tells(house, count, [])

    def test_order(self):
        house = built(3, [("b", (0, 1, 1, 2)), ("a", (1, 2, 1, 2)), ("c", (0, 2, None, 9))])
        self.assertEqual(house.names(), ["b", "a", "c"])
        house.drop("b")
        self.assertEqual(house.names(), ["a", "c"])
        house.add("b", 0, 1, 5, 6)
        self.assertEqual(house.names(), ["a", "c", "b"])
        self.assertEqual(house.gap("b"), (0, 1, 5, 6))
        house.drop("c")
        house.add("d", 0, 0)
        house.add("c", 2, 1)
        self.assertEqual(house.names(), ["a", "b", "d", "c"])
        for name in ("a", "b", "d", "c"):
            house.drop(name)
        self.assertEqual(house.names(), [])
        house.add("a", 0, 1)
        self.assertEqual(house.names(), ["a"])

    def test_each_name(self):
        house = House(3)
        for k, name in enumerate(NAMES):
            house.add(name, 0, 1, -k, k)
        self.assertEqual(house.names(), NAMES)
        self.assertTrue(all(type(name) is str for name in house.names()))
        for k, name in enumerate(NAMES):
            self.assertEqual(house.gap(name), (0, 1, -k, k))
            self.assert_refused(house, lambda: house.add(name, 0, 1))
        for name in NAMES:
            house.drop(name)
        self.assertEqual(house.names(), [])

    def test_lengths(self):
        for name in ("x", " ", "x" * 29, "x" * 30, "x" + " " * 28 + "y"):
            house = built(2, [(name, (0, 1, 2, 1))])
            self.assertEqual((house.names(), house.gap(name)), ([name], (0, 1, 2, 1)))
            self.assertEqual(sorted(house.ring()), [(name, "high"), (name, "low")])
            house.drop(name)
            self.assertEqual(house.names(), [])

    def test_names_alike_but_for_a_sign(self):
        gaps = [(name, (0, 1, k, 9)) for k, name in enumerate(["a", "A", "a ", " a", "aa"])]
        house = built(2, gaps)
        self.assertEqual([house.gap(name) for name, gap in gaps], [gap for name, gap in gaps])
        house.drop("a ")
        self.assertEqual(house.names(), ["a", "A", " a", "aa"])

    def test_names_are_a_new_list_each_time(self):
        house = built(3, TEA)
        one = house.names()
        other = house.names()
        spoil(one)
        self.assertEqual((other, house.names()), (["boil", "pour"], ["boil", "pour"]))
        other.clear()
        house.add("rest", 0, 2)
        self.assertEqual((other, house.names()), ([], ["boil", "pour", "rest"]))

    def test_sixty_gaps(self):
        gaps = [(f"gap {k}", (k % 7, k % 7 + 1, k - 60, 100 - k)) for k in range(60)]
        house = built(8, gaps)
        self.assert_tells(house, 8, gaps)
        house.drop("gap 30")
        house.add("gap 60", 7, 0, None, -1)
        self.assertEqual(len(house.names()), 60)
        self.assert_tells(house, 8, gaps[:30] + gaps[31:] + [("gap 60", (7, 0, None, -1))])


class Gaps(Houses):
    def test_each_end(self):
        for low, high in itertools.product((None, 0, -5, 7, BIG, -BIG), repeat=2):
            for a, b in ((0, 1), (1, 0), (1, 1)):
                house = House(2)
                house.add("gap", a, b, low, high)
                self.assertEqual(house.gap("gap"), (a, b, low, high))
                self.assertIs(type(house.gap("gap")), tuple)
                self.assert_tells(house, 2, [("gap", (a, b, low, high))])

    def test_ends_that_are_not_told(self):
        house = House(2)
        house.add("none", 0, 1)
        house.add("low", 0, 1, 3)
        house.add("high", 0, 1, high=8)
        house.add("both", high=7, low=4, b=0, a=1)
        house.add(name="named", a=0, b=1, low=None, high=9)
        wanted = [(0, 1, None, None), (0, 1, 3, None), (0, 1, None, 8), (1, 0, 4, 7), (0, 1, None, 9)]
        self.assertEqual([house.gap(name) for name in house.names()], wanted)
        self.assertEqual(house.gap(name="both"), (1, 0, 4, 7))
        house.drop(name="both")
        self.assertTrue(house.idle(name="none"))
        self.assertEqual(house.chain(a=0, b=1), [("high", "high")])
        self.assertEqual(House(count=1).names(), [])

    def test_low_above_high(self):
        house = built(2, [("gap", (0, 1, 5, 4))])
        self.assertEqual(house.gap("gap"), (0, 1, 5, 4))
        self.assertIs(house.table(), None)
        house = built(1, [("gap", (0, 0, 1, -1))])
        self.assertEqual(house.gap("gap"), (0, 0, 1, -1))

    def test_gaps_that_cannot_be_stand_too(self):
        house = built(3, TEA + [("soon", (0, 2, None, 3))])
        self.assertEqual(house.names(), ["boil", "pour", "soon"])
        house.add("more", 0, 1, 1, 1)
        self.assertEqual(house.gap("more"), (0, 1, 1, 1))


class Refused(Houses):
    def test_added_again(self):
        house = built(3, TEA)
        self.assert_refused(house, lambda: house.add("boil", 0, 1, 3, 8))
        self.assert_refused(house, lambda: house.add("boil", 1, 2))
        self.assert_refused(house, lambda: house.add("pour", 0, 1, 5, 4))
        house.drop("boil")
        house.add("boil", 0, 1, 2, 2)
        self.assert_refused(house, lambda: house.add("boil", 0, 1, 3, 8))

    def test_dropped_or_asked_for_where_none_stands(self):
        for house in (House(3), built(3, TEA), built(3, TEA + [("soon", (0, 2, None, 3))])):
            for name in ("rest", "Boil", "boil ", " boil", "boi", " ", "x" * 30, "high"):
                self.assert_refused(house, lambda: house.drop(name))
                self.assert_refused(house, lambda: house.gap(name))
                self.assert_refused(house, lambda: house.idle(name))

    def test_dropped_twice(self):
        house = built(3, TEA)
        house.drop("boil")
        self.assert_refused(house, lambda: house.drop("boil"))
        self.assert_refused(house, lambda: house.gap("boil"))
        self.assert_refused(house, lambda: house.idle("boil"))
        self.assertEqual(house.names(), ["pour"])

    def test_kind(self):
        house = built(3, TEA)
        refused = (
            lambda: house.add("boil", 0, 1), lambda: house.drop("x"), lambda: house.gap("x"), lambda: house.idle("x"),
        )
        for do, kind in itertools.product(refused, (errors.NoName, errors.WaitError, ValueError)):
            with self.assertRaises(kind) as caught:
                do()
            self.assertNotIsInstance(caught.exception, OTHER_REFUSALS)


class Tables(Houses):
    def test_some_schedule_keeps_the_gaps(self):
        self.assert_table(House(1).table(), [[0]])
        self.assert_table(House(8).table(), wide(8))
        self.assert_table(built(3, TEA).table(), TEA_TABLE)
        self.assert_table(built(3, TEA + [("soon", (0, 2, None, 4))]).table(), [[0, 3, 4], [-3, 0, 1], [-4, -1, 0]])
        self.assert_table(built(2, [("gap", (0, 1, None, None))]).table(), wide(2))
        self.assert_table(built(2, [("gap", (0, 1, 5, None))]).table(), [[0, None], [-5, 0]])
        self.assert_table(built(2, [("gap", (1, 1, -5, 0))]).table(), wide(2))

    def test_none_keeps_the_gaps(self):
        self.assertIs(built(3, TEA + [("soon", (0, 2, None, 3))]).table(), None)
        self.assertIs(built(1, [("gap", (0, 0, 1, None))]).table(), None)
        self.assertIs(built(1, [("gap", (0, 0, None, -1))]).table(), None)
        self.assertIs(built(2, [("gap", (0, 1, 1, 0))]).table(), None)

    def test_as_the_window_shows(self):
        draw = random.Random(10)
        for k in range(120):
            ends = (None, -2, -1, 0, 1, 2)
            gaps = [
                (f"gap {n}", (draw.randrange(3), draw.randrange(3), draw.choice(ends), draw.choice(ends)))
                for n in range(1 + k % 4)
            ]
            bounds = list(named_bounds(gaps).values())
            kept = [times for times in WINDOW if keeps_all(times, bounds)]
            self.assert_table(built(3, gaps).table(), seen_table(kept))

    def test_new_each_time(self):
        house = built(3, TEA)
        one = house.table()
        other = house.table()
        spoil(one)
        self.assert_table(other, TEA_TABLE)
        self.assert_table(house.table(), TEA_TABLE)
        house.add("soon", 0, 2, None, 3)
        self.assert_table(other, TEA_TABLE)


class RingsAndChains(Houses):
    def test_ring_none_where_there_is_a_table(self):
        for house in (House(1), House(8), built(3, TEA), built(2, [("gap", (0, 1, 5, 5))])):
            self.assertIs(house.ring(), None)

    def test_ring(self):
        house = built(3, TEA + [("soon", (0, 2, None, 3))])
        self.assertIs(type(house.ring()), list)
        self.assertEqual(sorted(house.ring()), [("boil", "low"), ("pour", "low"), ("soon", "high")])
        self.assertEqual(built(1, [("on", (0, 0, 1, None))]).ring(), [("on", "low")])
        self.assertEqual(built(1, [("on", (0, 0, -1, 0)), ("off", (0, 0, 0, -1))]).ring(), [("off", "high")])
        self.assertEqual(sorted(built(2, [("gap", (1, 0, 5, 4))]).ring()), [("gap", "high"), ("gap", "low")])

    def test_ring_leads_round(self):
        gaps = TEA + [("soon", (0, 2, None, 3))]
        self.assert_house_ring(built(3, gaps), 3, gaps, None)
        gaps = [(f"step {k}", (k, k + 1, 1, 10)) for k in range(7)] + [("all", (0, 7, None, 6))]
        self.assert_house_ring(built(8, gaps), 8, gaps, None)
        self.assertEqual(len(built(8, gaps).ring()), 8)

    def test_chain(self):
        house = built(3, TEA)
        self.assertEqual(house.chain(0, 2), [("boil", "high"), ("pour", "high")])
        self.assertEqual(house.chain(2, 0), [("pour", "low"), ("boil", "low")])
        self.assertEqual(house.chain(0, 1), [("boil", "high")])
        self.assertEqual(house.chain(2, 1), [("pour", "low")])
        house.add("soon", 0, 2, None, 11)
        self.assertEqual(house.chain(0, 2), [("soon", "high")])
        self.assertIs(type(house.chain(0, 2)), list)
        self.assertIs(type(house.chain(0, 2)[0]), tuple)

    def test_chain_by_way_of_a_low_end(self):
        # Point 2 comes at most 9 behind point 0, and at least 4 behind point 1.
        house = built(3, [("late", (0, 2, None, 9)), ("rest", (1, 2, 4, None))])
        self.assertEqual(house.chain(0, 1), [("late", "high"), ("rest", "low")])

    def test_chain_none(self):
        self.assertIs(House(2).chain(0, 1), None)
        self.assertIs(built(2, [("gap", (0, 1, 5, None))]).chain(0, 1), None)
        self.assertIs(built(2, [("gap", (0, 1, None, 5))]).chain(1, 0), None)
        self.assertIs(built(2, [("gap", (0, 1))]).chain(0, 1), None)
        torn = built(3, TEA + [("soon", (0, 2, None, 3))])
        for a, b in itertools.product(range(3), repeat=2):
            self.assertIs(torn.chain(a, b), None)

    def test_chain_from_a_point_to_itself(self):
        for house in (House(3), built(3, TEA), built(3, [("gap", (0, 0, -1, 1))])):
            for x in range(3):
                self.assertEqual(house.chain(x, x), [])
                self.assertIs(type(house.chain(x, x)), list)

    def test_new_each_time(self):
        house = built(3, TEA)
        torn = built(3, TEA + [("soon", (0, 2, None, 3))])
        for tell in (lambda: house.chain(0, 2), lambda: house.chain(1, 1), torn.ring):
            self.assert_own(tell)


class Idle(Houses):
    def test_told_by_others(self):
        house = built(3, TEA + [("all", (0, 2, 4, 12)), ("near", (0, 2, 0, 11)), ("none", (1, 2, None, None))])
        self.assertEqual([house.idle(name) for name in house.names()], [False, False, True, False, True])
        self.assertIs(house.idle("all"), True)
        self.assertIs(house.idle("near"), False)

    def test_one_end_is_told_by_others(self):
        house = built(2, [("low", (0, 1, 3, None)), ("high", (0, 1, None, 8)), ("both", (0, 1, 3, 7))])
        self.assertEqual([house.idle(name) for name in house.names()], [True, True, False])
        house.drop("high")
        self.assertEqual([house.idle(name) for name in house.names()], [True, False])

    def test_two_alike(self):
        house = built(2, [("one", (0, 1, 3, 8)), ("other", (0, 1, 3, 8))])
        self.assertEqual((house.idle("one"), house.idle("other")), (True, True))
        house.drop("other")
        self.assertIs(house.idle("one"), False)

    def test_from_a_point_to_itself(self):
        house = built(2, [("on", (0, 0, 0, 0)), ("off", (1, 1, -5, None))])
        self.assertEqual((house.idle("on"), house.idle("off")), (True, True))

    def test_without_a_table(self):
        house = built(3, TEA + [("soon", (0, 2, None, 3)), ("all", (0, 2, 4, 12))])
        # All but soon may be missed: boil and pour, or all, are enough against it.
        self.assertEqual([house.idle(name) for name in house.names()], [True, True, False, True])
        house.drop("all")
        self.assertEqual([house.idle(name) for name in house.names()], [False, False, False])
        house.add("never", 1, 1, 1, None)
        self.assertEqual([house.idle(name) for name in house.names()], [True] * 4)

    def test_asking_changes_nothing(self):
        house = built(3, TEA + [("all", (0, 2, 4, 12))])
        for name in ("all", "boil", "all"):
            house.idle(name)
        self.assert_tells(house, 3, TEA + [("all", (0, 2, 4, 12))])


class WholeHouses(Houses):
    def test_drawn_ones(self):
        torn = 0
        for count, gaps in HOUSES:
            self.assert_tells(built(count, gaps), count, gaps)
            torn += built(count, gaps).table() is None
        self.assertGreater(torn, 30)
        self.assertGreater(len(HOUSES) - torn, 60)

    def test_hangs_on_the_gaps_that_stand(self):
        draw = random.Random(26)
        for count, gaps in HOUSES[::3]:
            house = House(count)
            standing = []
            for k in range(12):
                name, gap = draw.choice(gaps)
                known = [other for other in standing if other[0] == name]
                if known:
                    house.drop(name)
                    standing.remove(known[0])
                else:
                    house.add(name, *gap)
                    standing.append((name, gap))
            self.assert_tells(house, count, standing)

    def test_dropped_gaps_are_forgotten(self):
        house = built(3, TEA + [("soon", (0, 2, None, 3))])
        self.assertIs(house.table(), None)
        house.drop("soon")
        self.assert_tells(house, 3, TEA)
        house.add("soon", 0, 2, None, 4)
        self.assert_tells(house, 3, TEA + [("soon", (0, 2, None, 4))])
        house.drop("boil")
        house.drop("pour")
        self.assert_tells(house, 3, [("soon", (0, 2, None, 4))])

    def test_two_houses_do_not_touch_each_other(self):
        one = built(3, TEA)
        other = House(3)
        self.assertEqual(other.names(), [])
        before = answers(one)
        other.add("boil", 0, 1, 9, 9)
        other.add("rest", 1, 2, 5, 4)
        self.assertEqual(answers(one), before)
        one.drop("boil")
        self.assert_tells(other, 3, [("boil", (0, 1, 9, 9)), ("rest", (1, 2, 5, 4))])
        self.assert_tells(one, 3, TEA[1:])

    def test_told_things_stay_when_the_house_goes_on(self):
        house = built(3, TEA)
        told = answers(house)
        kept = copy.deepcopy(told)
        house.add("soon", 0, 2, None, 3)
        house.drop("boil")
        self.assertEqual(told, kept)

    def test_spoiled_answers_change_nothing(self):
        for gaps in (TEA, TEA + [("soon", (0, 2, None, 3))]):
            house = built(3, gaps)
            for part in answers(house):
                spoil(part)
            self.assert_tells(house, 3, gaps)

    def test_great_numbers(self):
        gaps = [("far", (0, 1, BIG - 1, BIG)), ("farther", (1, 2, BIG, BIG))]
        house = built(3, gaps)
        self.assert_table(house.table(), [[0, BIG, 2 * BIG], [1 - BIG, 0, BIG], [1 - 2 * BIG, -BIG, 0]])
        self.assert_tells(house, 3, gaps)
        house.add("near", 2, 0, None, -2 * BIG - 1)
        self.assert_tells(house, 3, gaps + [("near", (2, 0, None, -2 * BIG - 1))])
        self.assertEqual(len(house.ring()), 3)
