"""Points 4 and 7 to 9: best, bests, best_lot, lots_of_best, nth_lot."""

import math
import unittest

from listing import LOTS, OTHERS, Numbers, best_lots, exact_bests, small_rows, steps_of, value
from spillmirror.errors import NoDays, NoMany, NoNumber
from spillmirror.lots import best, best_lot, bests, is_lot, lots_of_best, nth_lot
from spillmirror.runs import totals

BIG = 10 ** 15 - 1


class AgainstAllLots(unittest.TestCase):
    def test_all_rows_of_few_days(self):
        for days in small_rows():
            for many in [*range(len(days) // 2 + 3), BIG]:
                top, lots = best_lots(days, many)
                fewest = min(len(lot) for lot in lots)
                self.assertEqual(best(days, many), top, (days, many))
                self.assertEqual(best_lot(days, many), min(lot for lot in lots if len(lot) == fewest), (days, many))
                self.assertEqual(lots_of_best(days, many), len(lots), (days, many))
                self.assertEqual([nth_lot(days, many, number) for number in range(len(lots))], lots, (days, many))

    def test_bests_of_all_rows_of_few_days(self):
        for days in small_rows():
            tops = [best_lots(days, many)[0] for many in range(len(days) + 2)]
            end = next(many for many in range(len(days) + 1) if tops[many] == tops[many + 1])
            self.assertEqual(bests(days), tops[:end + 1], days)

    def test_bests_rise_by_less_and_less(self):
        for days in small_rows():
            told = bests(days)
            rises = [more - less for less, more in zip(told, told[1:])]
            self.assertEqual(rises, sorted(rises, reverse=True), days)
            self.assertTrue(all(rise > 0 for rise in rises), days)


class Examples(unittest.TestCase):
    def test_an_ordinary_row(self):
        days = [3, -1, 4, -5, 2]
        self.assertEqual(bests(days), [0, 6, 8, 9])
        self.assertEqual([best(days, many) for many in (0, 1, 2, 3, 4, BIG)], [0, 6, 8, 9, 9, 9])
        self.assertEqual(best_lot(days, 0), [])
        self.assertEqual(best_lot(days, 1), [(0, 2)])
        self.assertEqual(best_lot(days, 2), [(0, 2), (4, 4)])
        self.assertEqual(best_lot(days, BIG), [(0, 0), (2, 2), (4, 4)])

    def test_of_0_stretches(self):
        for days in ([], [5], [0], [-5, 3, 0]):
            self.assertEqual(best(days, 0), 0)
            self.assertEqual(best_lot(days, 0), [])
            self.assertEqual(lots_of_best(days, 0), 1)
            self.assertEqual(nth_lot(days, 0, 0), [])

    def test_the_empty_row(self):
        for many in (0, 1, BIG):
            self.assertEqual(best([], many), 0)
            self.assertEqual(best_lot([], many), [])
            self.assertEqual(lots_of_best([], many), 1)
            self.assertEqual(nth_lot([], many, 0), [])
        self.assertEqual(bests([]), [0])

    def test_nothing_is_poured(self):
        for days in ([0], [-1], [-1, 0, -1], [0, 0, 0]):
            self.assertEqual(bests(days), [0])
            self.assertEqual(best_lot(days, 9), [])

    def test_ties(self):
        # The fewest stretches come ahead of the least list.
        self.assertEqual(best_lot([0, 0, 5], 3), [(0, 2)])
        self.assertEqual(best_lot([2, 0, 2], 2), [(0, 2)])
        self.assertEqual(best_lot([1, -1, 1], 1), [(0, 0)])
        self.assertEqual(best_lot([1, -1, 1, -1, 1], 2), [(0, 0), (2, 2)])
        self.assertEqual(best_lot([0, 3, 0], 1), [(0, 1)])

    def test_numbers_rise_as_lists_do(self):
        self.assertEqual([nth_lot([0, 1, 0], 2, number) for number in range(lots_of_best([0, 1, 0], 2))],
                         [[(0, 1)], [(0, 2)], [(1, 1)], [(1, 2)]])
        self.assertEqual([nth_lot([0, 0, 0], 9, number) for number in range(8)], LOTS[3])

    def test_by_names(self):
        self.assertEqual(best(many=1, days=[5]), 5)
        self.assertEqual(bests(days=[5]), [0, 5])
        self.assertEqual(best_lot(many=1, days=[5]), [(0, 0)])
        self.assertEqual(lots_of_best(many=1, days=[5]), 1)
        self.assertEqual(nth_lot(number=0, many=1, days=[5]), [(0, 0)])

    def test_kinds(self):
        self.assertIs(type(best_lot([5], 1)), list)
        self.assertEqual([type(part) for part in best_lot([5, -1, 5], 2)], [tuple, tuple])
        self.assertEqual([type(part) for part in nth_lot([5, -1, 5], 2, 0)], [tuple, tuple])
        for told in (best([], 1), best([5], 1), lots_of_best([], 0), *bests([5])):
            self.assertIs(type(told), int)


class Own(unittest.TestCase):
    def test_what_is_told_is_new(self):
        days = [3, -1, 4]
        for ask in (lambda: bests(days), lambda: best_lot(days, 2), lambda: nth_lot(days, 2, 0), lambda: best_lot([], 2),
                    lambda: nth_lot([0], 2, 0)):
            told = ask()
            kept = list(told)
            told.append(99)
            told[0] = 77
            self.assertEqual(ask(), kept)
            self.assertIsNot(ask(), ask())
        self.assertEqual(days, [3, -1, 4])

    def test_days_that_are_changed_later(self):
        days = [3, -1, 4]
        told = best_lot(days, 1)
        days[1] = -9
        self.assertEqual(told, [(0, 2)])
        self.assertEqual(best_lot(days, 1), [(2, 2)])


class Mirror(unittest.TestCase):
    """What point 4 says of runs and of the best of so many stretches."""

    def test_small_rows(self):
        for days in small_rows():
            tops = bests(days)
            spills = [totals(days, cap, 0)[1] for cap in range(sum(map(abs, days)) + 1)]
            for cap, spilled in enumerate(spills):
                self.assertEqual(spilled, max(top - many * cap for many, top in enumerate(tops)))
            for many in range(len(days) + 1):
                self.assertEqual(best(days, many), min(spilled + many * cap for cap, spilled in enumerate(spills)))

    def test_two_hundred_days(self):
        days = Numbers(5).row(200, BIG)
        tops = bests(days)
        caps = [more - less for less, more in zip(tops, tops[1:])] + [0]
        for cap in caps:
            self.assertEqual(totals(days, cap, 0)[1], max(top - many * cap for many, top in enumerate(tops)))
        for many in range(201):
            self.assertEqual(best(days, many), min(totals(days, cap, 0)[1] + many * cap for cap in caps))


class Refused(unittest.TestCase):
    def refused(self, error, function, *arguments):
        with self.subTest(function=function, arguments=arguments), self.assertRaises(Exception) as caught:
            function(*arguments)
        self.assertIs(type(caught.exception), error)

    def test_no_days(self):
        for days in [(1, 2), None, "12", 5, True, {}, {1}] + [[1, thing] for thing in OTHERS]:
            self.refused(NoDays, bests, days)
            for function in (best, best_lot, lots_of_best):
                self.refused(NoDays, function, days, 1)
            self.refused(NoDays, nth_lot, days, 1, 0)

    def test_no_many(self):
        for many in OTHERS + [-1, -BIG]:
            for function in (best, best_lot, lots_of_best):
                self.refused(NoMany, function, [1], many)
                self.refused(NoMany, function, [], many)
            self.refused(NoMany, nth_lot, [1], many, 0)

    def test_no_number(self):
        for number in OTHERS + [-1, -BIG, 1, 2, BIG]:
            self.refused(NoNumber, nth_lot, [1], 1, number)
            self.refused(NoNumber, nth_lot, [], 0, number)

    def test_no_number_of_all_small_rows(self):
        for days in ([0, 0, 0], [1, 0, -1, 1], [-1, -1], [2, -2, 2]):
            for many in range(4):
                number = lots_of_best(days, many)
                self.assertEqual(number, len(best_lots(days, many)[1]))
                self.refused(NoNumber, nth_lot, days, many, number)
                self.refused(NoNumber, nth_lot, days, many, -1)

    def test_several_at_once(self):
        for function in (best, best_lot, lots_of_best):
            self.refused(NoDays, function, [True], -1)
            self.refused(NoDays, function, None, None)
        self.refused(NoDays, nth_lot, None, None, None)
        self.refused(NoDays, nth_lot, ["1"], 1, -1)
        self.refused(NoDays, nth_lot, [False], -1, 0)
        self.refused(NoMany, nth_lot, [1], True, True)
        self.refused(NoMany, nth_lot, [1], -1, 5)


def rows_of_two_hundred():
    yield Numbers(1).row(200, 1)
    yield Numbers(2).row(200, 9)
    yield Numbers(3).row(200, BIG)
    yield [0] * 200
    yield [1] * 200
    yield [1, -1] * 100
    yield [BIG, -BIG] * 100
    yield [-BIG, 0] * 100
    yield [BIG - at if at & 1 else at - BIG for at in range(200)]


def least_of_fewest(days, many):
    """The worth and least list of exactly many stretches, for rows too long to list."""
    free = [(0, [])] * (len(days) + 2)
    for _ in range(many):
        now = [None] * (len(days) + 2)
        for first in reversed(range(len(days))):
            found = [] if now[first + 1] is None else [now[first + 1]]
            total = 0
            for last in range(first, len(days)):
                total -= days[last]
                if free[last + 2] is not None:
                    found.append((total + free[last + 2][0], [(first, last), *free[last + 2][1]]))
            now[first] = min(found) if found else None
        free = now
    return -free[0][0], free[0][1]


class Long(unittest.TestCase):
    def test_best_and_bests_of_two_hundred_days(self):
        for days in rows_of_two_hundred():
            tops = exact_bests(days)
            for many in (*range(101), 200, BIG):
                self.assertEqual(best(days, many), tops[min(many, 100)])
            self.assertEqual(bests(days), [0] + [more for less, more in zip(tops, tops[1:]) if more > less])

    def test_best_lot_of_two_hundred_days(self):
        for days in rows_of_two_hundred():
            for many in (0, 1, 2, 7, 30, 50, 99, 100, 200, BIG):
                lot = best_lot(days, many)
                self.assertTrue(is_lot(days, lot))
                self.assertEqual(len(lot), min(many, len(bests(days)) - 1))
                self.assertEqual(value(days, lot), best(days, many))
        self.assertEqual(best_lot([1, -1] * 100, 60), [(at, at) for at in range(0, 120, 2)])

    def test_the_least_lot_of_thirty_days(self):
        for seed in range(8):
            days = Numbers(seed).row(30, 1 + seed // 2)
            for many in range(1, len(bests(days))):
                self.assertEqual((best(days, many), best_lot(days, many)), least_of_fewest(days, many))

    def test_lots_of_forty_days_of_0(self):
        days = [0] * 40
        for many in (0, 1, 2, 10, 19, 20, 21, BIG):
            # Each lot is told by the days on which it begins and those behind its ends.
            self.assertEqual(lots_of_best(days, many), sum(math.comb(41, 2 * count) for count in range(min(many, 20) + 1)))
        self.assertEqual(nth_lot(days, BIG, 0), [])
        self.assertEqual(nth_lot(days, BIG, 1), [(0, 0)])
        self.assertEqual(nth_lot(days, BIG, 2 ** 40 - 1), [(39, 39)])
        with self.assertRaises(NoNumber):
            nth_lot(days, BIG, 2 ** 40)

    def test_lots_of_forty_days_come_in_rising_order(self):
        for seed, greatest in ((1, 1), (2, 1), (3, 2), (4, 3), (5, BIG)):
            days = Numbers(seed).row(40, greatest)
            for many in (1, 3, 8, 20, BIG):
                count = lots_of_best(days, many)
                middle = count // 2
                numbers = range(count) if count < 90 else [*range(20), *range(middle, middle + 20),
                                                           *range(count - 20, count)]
                lots = [nth_lot(days, many, number) for number in numbers]
                self.assertEqual(lots, sorted(lots))
                self.assertEqual(len({tuple(lot) for lot in lots}), len(lots))
                for lot in lots:
                    self.assertTrue(is_lot(days, lot))
                    self.assertLessEqual(len(lot), many)
                    self.assertEqual(value(days, lot), best(days, many))
                with self.assertRaises(NoNumber):
                    nth_lot(days, many, count)

    def test_lots_that_end_with_days_of_0(self):
        # Each of the two stretches may take days of 0 beside it in, but not all those between.
        days = [5] + [0] * 18 + [-3] + [0] * 19 + [5]
        self.assertEqual(lots_of_best(days, 2), 19 * 20)
        self.assertEqual(nth_lot(days, 2, 0), [(0, 0), (20, 39)])
        self.assertEqual(nth_lot(days, 2, 19 * 20 - 1), [(0, 18), (39, 39)])


class Soon(unittest.TestCase):
    def test_steps_do_not_grow_with_the_numbers(self):
        small = Numbers(9).row(200, 4)
        great = [day * 10 ** 14 for day in small]
        for function in (best, best_lot):
            for many in (3, 40, 100):
                steps = steps_of(function, small, many)[0]
                self.assertLess(steps, 200 ** 3)
                self.assertEqual(steps_of(function, great, many)[0], steps)
            self.assertEqual(steps_of(function, small, BIG)[0], steps_of(function, small, 200)[0])
        self.assertLess(steps_of(bests, small)[0], 200 ** 2)
        self.assertEqual(steps_of(bests, great)[0], steps_of(bests, small)[0])

    def test_steps_of_counting_and_numbering(self):
        for small in (Numbers(4).row(40, 2), [0] * 40, [1, -1] * 20):
            great = [day * 10 ** 14 for day in small]
            for many in (3, 20, BIG):
                steps, count = steps_of(lots_of_best, small, many)
                self.assertLess(steps, 40 ** 3)
                self.assertEqual(steps_of(lots_of_best, great, many), (steps, count))
                steps, lot = steps_of(nth_lot, small, many, count - 1)
                self.assertLess(steps, 40 ** 3)
                self.assertEqual(steps_of(nth_lot, great, many, count - 1), (steps, lot))

    def test_ties_all_over(self):
        for days in ([0] * 200, [1, -1] * 100, [BIG, -BIG] * 100, [1, 0, -1, 0] * 50):
            for many in (1, 50, 100, BIG):
                self.assertLess(steps_of(best_lot, days, many)[0], 200 ** 3)


if __name__ == "__main__":
    unittest.main()
