"""Points 2, 3, 7 and 9: is_lot, worth, and what they refuse."""

import itertools
import unittest

from listing import LOTS, OTHERS, Numbers, steps_of, value
from spillmirror.errors import NoDays, NoLot
from spillmirror.lots import is_lot, next_stretch, worth

BIG = 10 ** 15 - 1
DAYS = [4, -1, 0, 7, -2, 5]

GOOD = [
    [],
    [(0, 0)],
    [(5, 5)],
    [(0, 5)],
    [(2, 3)],
    [(0, 0), (2, 2), (4, 4)],
    [(1, 1), (3, 3), (5, 5)],
    [(0, 1), (3, 5)],
]

BAD = [
    # they touch
    [(0, 0), (1, 1)],
    [(0, 2), (3, 5)],
    [(0, 0), (2, 3), (4, 4)],
    # they overlap
    [(0, 2), (2, 4)],
    [(0, 3), (1, 2)],
    [(1, 2), (1, 2)],
    [(0, 4), (4, 4)],
    # they fall
    [(2, 2), (0, 0)],
    [(4, 5), (0, 1)],
    # they are turned about
    [(1, 0)],
    [(5, 3)],
    [(0, 0), (3, 2)],
    # they lie beyond the last day, or ahead of the first
    [(6, 6)],
    [(0, 6)],
    [(5, 6)],
    [(0, 0), (2, 6)],
    [(0, BIG)],
    [(-1, 0)],
    [(-2, -1)],
    [(-6, 5)],
    [(-1, -1)],
    # they are lists, or have another number of numbers
    [[0, 0]],
    [(0, 0), [2, 2]],
    [()],
    [(0,)],
    [(0, 1, 2)],
    [((0, 1))[0]],
    [((0, 0), (2, 2))],
    # there are truths and texts in them
    [(False, 0)],
    [(0, True)],
    [(False, False)],
    [(0, False)],
    [("0", "1")],
    [(0, "1")],
    [("0", 1)],
    [(0, None)],
    [(None, 0)],
    [(0, 1.0)],
    [(0.0, 1)],
    [((0,), 1)],
    [([0], 1)],
    ["01"],
    [b"01"],
    [None],
    [0],
    [0, 1],
    [True],
    [{0, 1}],
    [{0: 0, 1: 1}],
    [[]],
    [range(2)],
    [(0, 0), None],
    [None, (0, 0)],
]

NO_LISTS = [thing for thing in OTHERS if not isinstance(thing, list)]
NO_LISTS += [0, 1, ((0, 0),), ((0, 0), (2, 2)), (0, 0), {(0, 0)}, {(0, 0): 1}, iter([(0, 0)]), range(0), "[]"]


class IsLot(unittest.TestCase):
    def test_lots(self):
        for lot in GOOD:
            self.assertIs(is_lot(DAYS, lot), True, lot)

    def test_no_lots(self):
        for thing in BAD:
            self.assertIs(is_lot(DAYS, thing), False, thing)

    def test_things_of_other_kinds(self):
        for thing in NO_LISTS:
            self.assertIs(is_lot(DAYS, thing), False, thing)

    def test_of_no_days_only_the_empty_one(self):
        self.assertIs(is_lot([], []), True)
        self.assertIs(is_lot([], [(0, 0)]), False)
        self.assertIs(is_lot([5], [(0, 0)]), True)
        self.assertIs(is_lot([5], [(0, 1)]), False)

    def test_all_lists_of_stretches_of_few_days(self):
        for many_days in range(5):
            days = [1] * many_days
            stretches = list(itertools.product(range(-1, many_days + 1), repeat=2))
            for many in range(3):
                for thing in map(list, itertools.product(stretches, repeat=many)):
                    self.assertIs(is_lot(days, thing), thing in LOTS[many_days], thing)

    def test_deep_things(self):
        deep = ()
        for _ in range(39):
            deep = (deep, deep)
        self.assertIs(is_lot(DAYS, [deep]), False)

    def test_by_names(self):
        self.assertIs(is_lot(thing=[(0, 0)], days=[1]), True)

    def test_no_days_is_refused(self):
        for days in (None, (1,), [True], ["1"], 5):
            for thing in ([], [(0, 0)], None):
                with self.assertRaises(NoDays):
                    is_lot(days, thing)


class Worth(unittest.TestCase):
    def test_lots(self):
        worths = [0, 4, 5, 13, 7, 4 + 0 - 2, -1 + 7 + 5, 3 + 10]
        self.assertEqual([worth(DAYS, lot) for lot in GOOD], worths)

    def test_all_lots_of_few_days(self):
        for many_days in range(7):
            days = [(-3) ** at for at in range(many_days)]
            for lot in LOTS[many_days]:
                self.assertEqual(worth(days, lot), value(days, lot))

    def test_by_names(self):
        self.assertEqual(worth(lot=[(0, 1)], days=[1, 2]), 3)

    def test_great_numbers(self):
        self.assertEqual(worth([BIG] * 200, [(0, 199)]), 200 * BIG)
        self.assertEqual(worth([BIG, -BIG] * 100, [(at, at) for at in range(0, 200, 2)]), 100 * BIG)

    def test_soon(self):
        days = Numbers(3).row(200, 9)
        lot = [(at, at + 2) for at in range(0, 196, 4)]
        steps, told = steps_of(worth, days, lot)
        self.assertEqual(told, value(days, lot))
        self.assertLess(steps, 40 * 200)
        self.assertEqual(steps_of(worth, [day * 10 ** 14 for day in days], lot), (steps, told * 10 ** 14))

    def test_what_is_handed_in_stays(self):
        days, lot = list(DAYS), [(0, 0), (3, 5)]
        worth(days, lot)
        is_lot(days, lot)
        self.assertEqual((days, lot), (DAYS, [(0, 0), (3, 5)]))


class Refused(unittest.TestCase):
    def refused(self, error, *arguments):
        for function in (worth, next_stretch):
            with self.subTest(function=function, arguments=arguments), self.assertRaises(Exception) as caught:
                function(*arguments)
            self.assertIs(type(caught.exception), error)

    def test_no_days(self):
        for days in [(1, 2), None, "12", 5, True, {}, {1}] + [[1, thing] for thing in OTHERS]:
            self.refused(NoDays, days, [])

    def test_no_lot(self):
        for thing in BAD + NO_LISTS:
            self.refused(NoLot, DAYS, thing)
        self.refused(NoLot, [], [(0, 0)])

    def test_no_days_goes_ahead_of_no_lot(self):
        self.refused(NoDays, None, None)
        self.refused(NoDays, [True], [(1, 0)])
        self.refused(NoDays, "1", "1")


if __name__ == "__main__":
    unittest.main()
