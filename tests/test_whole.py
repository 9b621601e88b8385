"""Points 1 to 4: what the functions of the whole program say of one another, and what holds for each of them."""

import copy
import importlib
import itertools
import unittest

from asking import BIG, check_names, check_own
from listing import Numbers, small_rows, value
from spillmirror.begins import most_lacking, most_spilled
from spillmirror.errors import TooMany
from spillmirror.everycap import apart, by_core, core
from spillmirror.fives import ends_from, few_days, five, is_five, joined, led
from spillmirror.lots import best, best_lot, bests, is_lot, lots_of_best, next_stretch, nth_lot, worth
from spillmirror.mirror import (bests_of, cap_for, caps_that_show, days_of, shows, spill_lot, spilled, spills,
                                spills_of)
from spillmirror.rounds import round_of, rounds, stays
from spillmirror.runs import run, totals
from spillmirror.seen import can_be, days_for, first_wrong
from spillmirror.texts import (read_bounds, read_core, read_days, read_five, read_looks, read_lot, show_bounds, show_core,
                               show_days, show_five, show_looks, show_lot)
from spillmirror.vessels import vessels
from test_form import INTERFACE
from test_rounds import five_of_rounds


def long_rows():
    """(days, a cap among its numbers) for rows of many days, some of great numbers."""
    for seed, many_days, greatest in ((1, 200, 1), (2, 200, 50), (3, 200, BIG), (4, 77, 10 ** 9), (5, 199, 4)):
        yield Numbers(seed).row(many_days, greatest), greatest
    yield [(-1) ** at * min(at + 1, 200 - at) for at in range(200)], 60
    yield [(-1) ** at * (BIG - 7 * abs(at - 77)) for at in range(200)], BIG - 100
    yield [BIG, -BIG, 0, 0] * 50, BIG
    yield [BIG] * 200, BIG
    yield [-BIG] * 200, BIG
    yield [0] * 200, 5


def tanks_of(cap):
    """(cap, start) of a few tanks about a cap, with one of no cap."""
    for size in sorted({0, 1, cap // 3, cap - 1, cap, cap + 1, 9 * cap, 300 * cap} - {-1}):
        for start in sorted({0, 1, size // 2, size - 1, size}):
            if 0 <= start <= size:
                yield size, start


def days_of_core(told):
    """Days that have a core: each of its sizes is drawn and poured about its greatest move."""
    rest, sizes = told
    if not sizes:
        return list(rest)
    at = max(range(len(rest)), key=lambda place: abs(rest[place]))
    sign = 1 if rest[at] < 0 else -1
    return rest[:at + 1] + [day for size in sizes for day in (sign * size, -sign * size)] + rest[at + 1:]


class Agreements(unittest.TestCase):
    """What is said of one row of days, in all the ways that the program has."""

    def check_tank(self, days, cap, start):
        """One tank: its run, lots that show it, its five, its core, its history, and one round."""
        done = totals(days, cap, start)
        end, over, short = done
        contents, spilling, lacking = run(days, cap, start)
        self.assertEqual((contents[-1], sum(spilling), sum(lacking)), done)
        self.assertEqual(start + sum(days) - over + short, end)
        told = five(days, cap)
        self.assertEqual(led(cap, told, start), done)
        self.assertEqual(by_core(core(days), cap, start), done)
        self.assertEqual(round_of(days, cap, start, 1), done)
        most, lot = most_spilled(days, cap, start)
        self.assertEqual((most, value(days, lot) - sum(cap if first else cap - start for first, _ in lot)), (over, over))
        self.assertTrue(is_lot(days, lot))
        most, lot = most_lacking(days, cap, start)
        self.assertEqual((most, -value(days, lot) - sum(cap if first else start for first, _ in lot)), (short, short))
        self.assertTrue(is_lot(days, lot))
        bounds = [(day, day) for day in days]
        self.assertEqual(can_be(bounds, cap, [(0, start)]), [(content, content) for content in contents])
        looks = list(enumerate(contents))
        self.assertIs(first_wrong(bounds, cap, looks[::-1]), None)
        self.assertEqual(days_for(bounds, cap, looks[1::2], 0, start), (start, days))
        self.assertEqual(first_wrong(bounds, cap, looks + [(len(days), end + 1), (0, start)]), len(looks))

    def check_cap(self, days, cap):
        """All starts of a cap: the five, few days that have it, the ends, the contents that stay."""
        told = five(days, cap)
        self.assertTrue(is_five(cap, told))
        few = few_days(cap, told)
        self.assertEqual(five(few, cap), told)
        differ = apart(days, few)
        self.assertTrue(differ is None or differ[0] != cap)
        for many in (0, len(days) // 3, len(days)):
            self.assertEqual(joined(cap, five(days[:many], cap), five(days[many:], cap)), told)
        ends = ends_from(days, cap)
        self.assertEqual(can_be([(day, day) for day in days], cap, [])[-1], ends)
        self.assertEqual((led(cap, told, 0)[0], led(cap, told, cap)[0]), ends)
        for content in stays(days, cap):
            self.assertEqual(led(cap, told, content)[0], content)
            self.assertEqual(rounds(days, cap, content), (0, content))
            self.assertTrue(ends[0] <= content <= ends[1])
        self.assertEqual(five(days * 3, cap), joined(cap, told, joined(cap, told, told)))
        self.assertEqual(read_five(show_five(told)), told)

    def check_rounds(self, days, cap, start):
        """Rounds, one behind another, and all at once."""
        told = five(days, cap)
        self.assertEqual(round_of(days, cap, start, 3), totals(days * 3, cap, start))
        many, content = rounds(days, cap, start)
        least, greatest = stays(days, cap)
        self.assertTrue(least <= content <= greatest)
        for more in (0, 1, 10 ** 20):
            end, over, short = round_of(days, cap, start, many + more)
            self.assertEqual(end, content)
            self.assertEqual(start + (many + more) * sum(days) - over + short, content)
        if many:
            before, over, short = round_of(days, cap, start, many - 1)
            self.assertFalse(least <= before <= greatest)
            last = led(cap, told, before)
            self.assertEqual((last[0], over + last[1], short + last[2]), round_of(days, cap, start, many))

    def check_mirror(self, days, caps):
        """What tanks of all caps spill, and the bests: each the other's mirror."""
        tops = bests(days)
        rises = [more - less for less, more in zip(tops, tops[1:])]
        rest, sizes = core(days)
        self.assertEqual(rises, sorted(sizes + [move for move in rest if move > 0], reverse=True))
        for cap in sorted(set(caps) | set(rises)):
            over = spilled(days, cap)
            self.assertEqual(over, totals(days, cap, 0)[1])
            self.assertEqual(over, max(top - many * cap for many, top in enumerate(tops)))
            self.assertEqual(over - spilled(days, cap + 1), sum(rise > cap for rise in rises))
            lot = spill_lot(days, cap)
            self.assertEqual(worth(days, lot) - len(lot) * cap, over)
            self.assertEqual((over, lot), most_spilled(days, cap, 0))
            self.assertTrue(shows(days, cap, len(lot)))
            least = cap_for(days, over)
            self.assertTrue(least <= cap and spilled(days, least) <= over)
            self.assertTrue(least == 0 or spilled(days, least - 1) > over)
        for many in range(len(tops) + 2):
            top = tops[min(many, len(rises))]
            self.assertEqual(best(days, many), top)
            least, greatest = caps_that_show(days, many)
            self.assertEqual(spilled(days, least) + many * least, top)
            self.assertTrue(least == 0 or not shows(days, least - 1, many))
            self.assertTrue(greatest is None or not shows(days, greatest + 1, many))
            self.assertTrue(shows(days, least if greatest is None else greatest, many))
            for cap in caps:
                self.assertGreaterEqual(spilled(days, cap) + many * cap, top)
        self.assertEqual(bests(days_of(tops)), tops)
        if rises and rises[0] >= 1000:
            self.assertRaises(TooMany, spills, days)
            self.assertRaises(TooMany, spills_of, tops)
        else:
            self.assertEqual(spills_of(tops), spills(days))
            self.assertEqual(spills(days), [spilled(days, cap) for cap in range(len(spills(days)))])
            self.assertEqual(bests_of(spills(days)), tops)

    def check_lots(self, days):
        """Best lots, and the steps from each to the next."""
        tops = bests(days)
        lot = []
        for many, top in enumerate(tops):
            self.assertEqual(worth(days, best_lot(days, many)), top)
            self.assertEqual((worth(days, lot), len(lot)), (top, many))
            self.assertEqual(read_lot(show_lot(lot)), lot)
            step = next_stretch(days, lot)
            self.assertEqual(step is None, many == len(tops) - 1)
            if step is not None:
                word, first, last = step
                held = {at for low, high in lot for at in range(low, high + 1)}
                part = set(range(first, last + 1))
                held = held | part if word == "put" else held - part
                lot = [(at, min(high for high in range(at, len(days)) if high + 1 not in held))
                       for at in sorted(held) if at - 1 not in held]

    def check_core(self, days):
        """The core tells all: days that have the same core are not told apart, others are."""
        told = core(days)
        other = days_of_core(told)
        self.assertEqual(core(other), told)
        self.assertIs(apart(days, other), None)
        self.assertEqual(read_core(show_core(told)), told)
        self.assertEqual(read_days(show_days(days)), days)
        turned = [-day for day in days]
        self.assertEqual(core(turned), ([-move for move in told[0]], told[1]))
        differ = apart(days, turned)
        self.assertEqual(differ is None, core(turned) == told)
        if differ is not None:
            cap, start = differ
            self.assertNotEqual(totals(days, cap, start), totals(turned, cap, start))
            self.assertNotEqual(five(days, cap), five(turned, cap))
            self.assertTrue(cap == 0 or five(days, cap - 1) == five(turned, cap - 1))
            self.assertTrue(start == 0 or totals(days, cap, start - 1) == totals(turned, cap, start - 1))

    def check_vessels(self, days, caps):
        """The first so many vessels together are one tank."""
        told = vessels(days, caps)
        for many in range(1, len(caps) + 1):
            contents, over, short = run(days, sum(caps[:many]), 0)
            self.assertEqual([sum(held[:many]) for held, _, _ in told], contents[1:])
            self.assertEqual([row[many - 1] for _, row, _ in told], over)
            self.assertEqual([row[many - 1] for _, _, row in told], short)
            if days:
                self.assertEqual((sum(over), sum(short)), by_core(core(days), sum(caps[:many]), 0)[1:])

    def test_tanks_of_small_rows(self):
        for days in itertools.islice(small_rows(), 0, None, 5):
            for cap, start in ((0, 0), (1, 0), (1, 1), (2, 1), (4, 0), (4, 3), (4, 4), (9, 5)):
                self.check_tank(days, cap, start)

    def test_caps_of_small_rows(self):
        for days in itertools.islice(small_rows(), 1, None, 5):
            for cap in (0, 1, 2, 5, 11):
                self.check_cap(days, cap)

    def test_rounds_of_small_rows(self):
        for days in itertools.islice(small_rows(), 2, None, 5):
            for cap, start in ((0, 0), (1, 1), (3, 0), (3, 2), (8, 1), (8, 8)):
                self.check_rounds(days, cap, start)

    def test_mirrors_of_small_rows(self):
        for days in itertools.islice(small_rows(), 3, None, 5):
            self.check_mirror(days, range(8))

    def test_lots_of_small_rows(self):
        for days in itertools.islice(small_rows(), 4, None, 5):
            self.check_lots(days)
            for many in range(3):
                found = [nth_lot(days, many, number) for number in range(lots_of_best(days, many))]
                self.assertEqual(found, sorted(found))
                self.assertIn(best_lot(days, many), found)
                self.assertEqual({worth(days, lot) for lot in found}, {best(days, many)})

    def test_cores_of_small_rows(self):
        for days in itertools.islice(small_rows(), 0, None, 3):
            self.check_core(days)

    def test_vessels_of_small_rows(self):
        for days in itertools.islice(small_rows(), 1, None, 9):
            for caps in ([0], [2], [1, 0, 2], [3, 1, 1, 4]):
                self.check_vessels(days, caps)

    def test_long_rows(self):
        for days, cap in long_rows():
            for size, start in tanks_of(cap):
                self.check_tank(days, size, start)
                self.check_rounds(days, size, start)
            for size in sorted({0, cap // 3, cap, 9 * cap}):
                self.check_cap(days, size)
            self.check_mirror(days, [0, 1, cap // 2, cap, 7 * cap])
            self.check_lots(days)
            self.check_core(days)
            self.check_vessels(days, [cap // 3, 0, 5, cap, 2 * cap, 1, 1, cap, 0, 7, cap // 2, 9 * cap])

    def test_what_days_of_one_five_do(self):
        alike = {}
        for days in itertools.islice(small_rows(), 0, None, 7):
            alike.setdefault((len(days), five(days, 3)), []).append(days)
        for rows in alike.values():
            for days, other in zip(rows, rows[1:6]):
                differ = apart(days, other)
                self.assertTrue(differ is None or differ[0] != 3)
                for behind in ([2, -1], [-3], []):
                    self.assertEqual(five(days + behind, 3), five(other + behind, 3))
                    self.assertEqual(rounds(days + behind, 3, 1), rounds(other + behind, 3, 1))
                    self.assertEqual(round_of(days + behind, 3, 2, 9), round_of(other + behind, 3, 2, 9))

    def test_what_is_told_is_read_back(self):
        for days, cap in long_rows():
            bounds = [(day, day + cap) for day in days]
            start, found = days_for(bounds, cap, [], len(days), 0) or (0, days)
            self.assertEqual(read_days(show_days(found)), found)
            self.assertEqual(read_bounds(show_bounds(bounds)), bounds)
            looks = list(enumerate(run(found, cap, start)[0]))
            self.assertEqual(read_looks(show_looks(looks)), looks)
            told = can_be(bounds, cap, looks)
            if told is not None:
                self.assertEqual(read_bounds(show_bounds(told)), told)
            lot = most_lacking(days, cap, 0)[1]
            self.assertEqual(read_lot(show_lot(lot)), lot)

    def test_what_is_told_may_be_handed_in_though_it_is_great(self):
        _, over, short = round_of([BIG, -BIG, BIG], BIG // 2, 7, BIG)
        days = [over, -short, over * 3]
        self.assertEqual(totals(days, over, 5), led(over, five(days, over), 5))
        self.assertEqual(by_core(core(days), short, 1), totals(days, short, 1))
        self.assertEqual(best(days, 1), bests(days)[1])
        self.assertEqual(spilled(days, over), totals(days, over, 0)[1])
        self.assertEqual(round_of(days, over, 1, over), led(over, five_of_rounds(days, over, over), 1))
        self.assertEqual(read_days(show_days(days)), days)
        self.assertEqual(days_for([(-over, over)], over, [], 1, over), (0, [over]))


GOODS = {
    "is_days": [[3, -1]], "run": [[3, -1], 5, 1], "totals": [[3, -1], 5, 1],
    "is_lot": [[3, -1, 4], [(0, 2)]], "worth": [[3, -1, 4], [(0, 0), (2, 2)]], "best": [[3, -1, 4], 1],
    "lots_of_best": [[3, -1, 1], 2], "bests": [[3, -1, 4]], "best_lot": [[3, -1, 4], 2], "nth_lot": [[3, -1, 1], 2, 0],
    "next_stretch": [[3, -1, 4], [(0, 2)]],
    "spilled": [[3, -1, 4], 2], "spill_lot": [[3, -1, 4], 2], "spills": [[3, -1, 4]], "bests_of": [[7, 5, 3, 2, 1, 0]],
    "spills_of": [[0, 5, 7]], "days_of": [[0, 5, 7]], "cap_for": [[3, -1, 4], 2], "shows": [[3, -1, 4], 2, 1],
    "caps_that_show": [[3, -1, 4], 1],
    "most_spilled": [[3, -1, 4], 5, 1], "most_lacking": [[-3, 1, -4], 5, 1],
    "is_five": [5, (0, 0, 0, 0, 5)], "five": [[3, -1], 5], "led": [5, (1, 0, 0, 1, 4), 0],
    "joined": [5, (1, 0, 0, 1, 4), (-1, 0, 0, 3, 5)], "few_days": [5, (1, 0, 0, 1, 4)], "ends_from": [[3, -1], 5],
    "vessels": [[3, 4, -1], [2, 4]],
    "can_be": [[(0, 2), (-1, 1)], 5, [(1, 4)]], "days_for": [[(0, 2), (-1, 1)], 5, [(1, 4)], 2, 5],
    "first_wrong": [[(0, 2), (-1, 1)], 5, [(1, 4), (2, 0)]],
    "stays": [[3, -1], 5], "rounds": [[3, -1], 5, 1], "round_of": [[3, -1], 5, 1, 9],
    "core": [[3, -1, 4, -5]], "by_core": [([2, -7, 4], [6, 1]), 5, 1], "apart": [[2, -2], [-2, 2]],
    "show_days": [[3, -1, 0]], "show_lot": [[(0, 2), (4, 4)]], "show_five": [(1, 0, 0, 1, 4)],
    "show_core": [([2, -7, 4], [6, 1])], "show_bounds": [[(0, 2), (-1, 1)]], "show_looks": [[(1, 4), (0, 3)]],
    "read_days": ["+3 -1 0"], "read_lot": ["0-2,4-4"], "read_five": ["1/0/0/1/4"], "read_core": ["+2 -7 | 6 1"],
    "read_bounds": ["0..2 -1..1"], "read_looks": ["1:4 0:3"],
}


class EachFunction(unittest.TestCase):
    """What holds for each function of the interface."""

    def functions(self):
        for module, listed in INTERFACE.items():
            for name, arguments in listed.items():
                yield getattr(importlib.import_module("spillmirror." + module), name), arguments.split(), GOODS[name]

    def test_all_are_here(self):
        self.assertEqual({function.__name__ for function, _, _ in self.functions()}, set(GOODS))

    def test_nothing_handed_in_is_changed_and_nothing_told_is_shared(self):
        for function, names, goods in self.functions():
            check_names(self, function, **dict(zip(names, goods)))
            check_own(self, function, *copy.deepcopy(goods))

    def test_what_is_told_holds_no_truth_for_a_number(self):
        for function, _, goods in self.functions():
            told = function(*goods)
            if function.__name__ in ("is_days", "is_lot", "is_five", "shows"):
                self.assertIs(type(told), bool)
            else:
                parts = [told]
                while parts:
                    part = parts.pop()
                    self.assertIn(type(part), (int, str, list, tuple, type(None)), function)
                    parts += part if isinstance(part, (list, tuple)) else []


if __name__ == "__main__":
    unittest.main()
