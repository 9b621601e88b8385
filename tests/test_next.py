"""Points 3 and 9: next_stretch."""

import unittest

from listing import LOTS, Numbers, best_lots, small_rows, steps_of, value
from spillmirror.errors import NoDays, NoLot, NotBest
from spillmirror.lots import best, best_lot, bests, is_lot, next_stretch, worth

BIG = 10 ** 15 - 1


def stepped(lot, step):
    """The lot behind a step; it may be none."""
    word, first, last = step
    if word == "put":
        return sorted([*lot, (first, last)])
    out = []
    for low, high in lot:
        if low < first and last < high:
            out += [(low, first - 1), (last + 1, high)]
        else:
            out.append((low, high))
    return out


def steps_from(many_days, lot):
    """All steps from a lot: puts ahead of cuts, rising."""
    pairs = [(first, last) for first in range(many_days) for last in range(first, many_days)]
    steps = [("put", *pair) for pair in pairs] + [("cut", *pair) for pair in pairs]
    return [step for step in steps
            if len(stepped(lot, step)) == len(lot) + 1 and stepped(lot, step) in LOTS[many_days]]


STEPS = [{tuple(lot): steps_from(many_days, lot) for lot in LOTS[many_days]} for many_days in range(7)]


def next_by_listing(days, lot):
    """The step of the greatest gain, the first of as great ones, or None."""
    here = value(days, lot)
    step = max(STEPS[len(days)][tuple(lot)], default=None, key=lambda one: value(days, stepped(lot, one)))
    return step if step and value(days, stepped(lot, step)) > here else None


class AgainstAllLots(unittest.TestCase):
    def test_all_rows_of_few_days(self):
        for days in small_rows():
            if len(days) > 6:
                continue
            tops = [best_lots(days, many)[0] for many in range(len(days) + 2)]
            for lot in LOTS[len(days)]:
                if value(days, lot) < tops[len(lot)]:
                    with self.assertRaises(NotBest):
                        next_stretch(days, lot)
                    continue
                step = next_stretch(days, lot)
                self.assertEqual(step, next_by_listing(days, lot), (days, lot))
                rise = tops[len(lot) + 1] - tops[len(lot)]
                self.assertEqual(step is None, rise == 0, (days, lot))
                if step:
                    self.assertEqual(value(days, stepped(lot, step)), value(days, lot) + rise, (days, lot))


class Examples(unittest.TestCase):
    def test_a_put(self):
        self.assertEqual(next_stretch([3, -1, 4, -5, 2], []), ("put", 0, 2))
        self.assertEqual(next_stretch([3, -1, 4, -5, 2], [(0, 2)]), ("put", 4, 4))

    def test_a_cut(self):
        self.assertEqual(next_stretch([3, -1, 4, -5, 2], [(0, 2), (4, 4)]), ("cut", 1, 1))

    def test_no_gain(self):
        for days, lot in (([], []), ([0], []), ([0], [(0, 0)]), ([-1, -2], []), ([5], [(0, 0)]), ([5, 0, 5], [(0, 2)]),
                          ([3, -1, 4, -5, 2], [(0, 0), (2, 2), (4, 4)])):
            self.assertIsNone(next_stretch(days, lot))

    def test_a_put_goes_ahead_of_a_cut(self):
        self.assertEqual(next_stretch([5, -2, 5, -9, 2], [(0, 2)]), ("put", 4, 4))
        self.assertEqual(next_stretch([2, -9, 5, -2, 5], [(2, 4)]), ("put", 0, 0))
        self.assertEqual(next_stretch([5, -3, 5, -9, 2], [(0, 2)]), ("cut", 1, 1))
        self.assertEqual(next_stretch([5, -2, 5, -9, 3], [(0, 2)]), ("put", 4, 4))

    def test_the_least_of_as_great_ones(self):
        self.assertEqual(next_stretch([0, 3, 0, -1, 3], []), ("put", 0, 4))
        self.assertEqual(next_stretch([0, 3, 0, -9, 3], []), ("put", 0, 1))
        self.assertEqual(next_stretch([9, 0, -2, 0, 9], [(0, 4)]), ("cut", 1, 2))
        self.assertEqual(next_stretch([9, -2, 9, -2, 9], [(0, 4)]), ("cut", 1, 1))
        self.assertEqual(next_stretch([9, -20, 3, -9, 3], [(0, 0)]), ("put", 2, 2))
        self.assertEqual(next_stretch([9, -2, 9, -30, 9, -2, 9], [(0, 2), (4, 6)]), ("cut", 1, 1))

    def test_a_stretch_that_gains_nothing_may_stand_in_the_lot(self):
        self.assertIsNone(next_stretch([0, -1, 5], [(0, 0), (2, 2)]))
        self.assertIsNone(next_stretch([0, 0, 0], [(0, 0), (2, 2)]))

    def test_by_names(self):
        self.assertEqual(next_stretch(lot=[], days=[5]), ("put", 0, 0))

    def test_kinds(self):
        self.assertEqual([type(part) for part in next_stretch([5], [])], [str, int, int])
        self.assertIs(type(next_stretch([5], [])), tuple)


class Refused(unittest.TestCase):
    def refused(self, error, *arguments):
        with self.subTest(arguments=arguments), self.assertRaises(Exception) as caught:
            next_stretch(*arguments)
        self.assertIs(type(caught.exception), error)

    def test_not_best(self):
        self.refused(NotBest, [3, -9, 4], [(0, 0)])
        self.refused(NotBest, [3, -9, 4], [(0, 2)])
        self.refused(NotBest, [3, -9, 4, 0], [(1, 1), (3, 3)])
        self.refused(NotBest, [-1], [(0, 0)])

    def test_the_order(self):
        self.refused(NoDays, [True], [(5, 5)])
        self.refused(NoDays, None, [(0, 0)])
        self.refused(NoLot, [3, -9, 4], [(0, 0), (1, 1)])
        self.refused(NoLot, [3, -9, 4], [(2, 2), (0, 0)])
        self.refused(NoLot, [3, -9, 4], ((0, 0),))
        self.refused(NoLot, [-1], [(0, 1)])

    def test_what_is_handed_in_stays(self):
        days, lot = [3, -1, 4, -5, 2], [(0, 2)]
        next_stretch(days, lot)
        self.assertEqual((days, lot), ([3, -1, 4, -5, 2], [(0, 2)]))
        with self.assertRaises(NotBest):
            next_stretch(days, [(4, 4)])
        self.assertEqual(days, [3, -1, 4, -5, 2])


class Long(unittest.TestCase):
    def test_from_none_to_all(self):
        for days in (Numbers(1).row(200, 1), Numbers(2).row(200, 50), Numbers(3).row(200, BIG), [1, -1] * 100):
            lot, tops = [], bests(days)
            for many in range(1, len(tops)):
                lot = stepped(lot, next_stretch(days, lot))
                self.assertTrue(is_lot(days, lot))
                self.assertEqual((len(lot), worth(days, lot)), (many, tops[many]))
            self.assertIsNone(next_stretch(days, lot))

    def test_from_the_least_lots(self):
        days = Numbers(6).row(200, 3)
        for many in range(len(bests(days)) - 1):
            lot = stepped(best_lot(days, many), next_stretch(days, best_lot(days, many)))
            self.assertTrue(is_lot(days, lot))
            self.assertEqual((len(lot), worth(days, lot)), (many + 1, best(days, many + 1)))

    def test_steps_do_not_grow_with_the_numbers(self):
        small = Numbers(8).row(200, 5)
        great = [day * 10 ** 14 for day in small]
        for many in (0, 5, 30):
            lot = best_lot(small, many)
            steps, told = steps_of(next_stretch, small, lot)
            self.assertLess(steps, 200 ** 2)
            self.assertEqual(steps_of(next_stretch, great, lot), (steps, told))


if __name__ == "__main__":
    unittest.main()
