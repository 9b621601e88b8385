"""Points 4, 20 and 21: days between bounds, and looks."""

import itertools
import unittest

from asking import BIG, BOUNDS, CAP, LOOKS, NO_AMOUNTS, check_names, check_own, check_refusals, check_soon, refused
from listing import Numbers, steps_of
from spillmirror.errors import NoBounds, NoCap, NoContent, NoLooks, NoMoment
from spillmirror.fives import ends_from
from spillmirror.runs import run
from spillmirror.seen import can_be, days_for, first_wrong

MOMENT = ("moment", 1, NoMoment, NO_AMOUNTS + [4, 5, BIG])
CONTENT = ("content", 1, NoContent, NO_AMOUNTS)


def histories(bounds, cap):
    """All (start, days, contents) that can be without a look, in rising order."""
    for start in range(cap + 1):
        for days in itertools.product(*[range(least, greatest + 1) for least, greatest in bounds]):
            yield start, list(days), run(list(days), cap, start)[0]


def seen(rows, looks):
    """Those of the histories by which all looks are so."""
    return [row for row in rows if all(row[2][moment] == content for moment, content in looks)]


def spans(rows):
    """What can_be tells, by all histories; each whole number between is among them."""
    if not rows:
        return None
    told = []
    for contents in zip(*[contents for _, _, contents in rows]):
        assert sorted(set(contents)) == list(range(min(contents), max(contents) + 1))
        told.append((min(contents), max(contents)))
    return told


PAIRS = [(least, greatest) for least in range(-2, 3) for greatest in range(least, 3)]


def small_bounds():
    """Bounds of few days between small numbers."""
    for many_days in range(3):
        yield from map(list, itertools.product(PAIRS, repeat=many_days))
    for seed in range(150):
        numbers = Numbers(seed)
        yield [PAIRS[numbers.below(len(PAIRS))] for _ in range(3 + seed % 2)]


def looks_into(many_days, cap, numbers):
    """Lists of looks, some of them above the cap or at odds."""
    every = [(moment, content) for moment in range(many_days + 1) for content in range(cap + 2)]
    yield []
    yield from ([look] for look in every)
    for many in (2, 2, 3, 4):
        yield [every[numbers.below(len(every))] for _ in range(many)]


def looked_at(numbers, bounds, cap, every):
    """(start, days within the bounds, looks at each so many moments) of a history that is."""
    start = numbers.below(cap + 1)
    days = [least + numbers.below(greatest - least + 1) for least, greatest in bounds]
    contents = run(days, cap, start)[0]
    return start, days, [(moment, contents[moment]) for moment in range(0, len(contents), every)]


class CanBe(unittest.TestCase):
    def test_ordinary_days(self):
        bounds = [(0, 2), (-1, 1), (-5, -5)]
        self.assertEqual(can_be(bounds, 9, []), [(0, 9), (0, 9), (0, 9), (0, 4)])
        self.assertEqual(can_be(bounds, 9, [(0, 4)]), [(4, 4), (4, 6), (3, 7), (0, 2)])
        self.assertEqual(can_be(bounds, 9, [(0, 4), (3, 2)]), [(4, 4), (6, 6), (7, 7), (2, 2)])
        self.assertEqual(can_be(bounds, 9, [(3, 1)]), [(3, 7), (5, 7), (6, 6), (1, 1)])
        self.assertIs(can_be(bounds, 9, [(3, 5)]), None)

    def test_what_spills_or_lacks_ends_alike(self):
        self.assertEqual(can_be([(3, 3)], 5, [(1, 5)]), [(2, 5), (5, 5)])
        self.assertEqual(can_be([(-3, -3)], 5, [(1, 0)]), [(0, 3), (0, 0)])
        self.assertEqual(can_be([(3, 3)], 5, [(1, 4)]), [(1, 1), (4, 4)])
        self.assertEqual(can_be([(-9, 9)], 5, [(1, 0)]), [(0, 5), (0, 0)])
        self.assertEqual(can_be([(9, 9), (-9, -9)], 5, []), [(0, 5), (5, 5), (0, 0)])

    def test_the_edges(self):
        self.assertEqual(can_be([], 5, []), [(0, 5)])
        self.assertEqual(can_be([], 5, [(0, 5)]), [(5, 5)])
        self.assertEqual(can_be([], 0, []), [(0, 0)])
        self.assertEqual(can_be([(-1, 1), (0, 0)], 0, [(2, 0)]), [(0, 0)] * 3)
        self.assertEqual(can_be([(0, 0)], 5, [(1, 2), (0, 2), (1, 2)]), [(2, 2)] * 2)
        self.assertEqual(can_be([(-BIG, BIG)], BIG, [(0, BIG)]), [(BIG, BIG), (0, BIG)])

    def test_looks_that_cannot_be(self):
        for cap, looks in ((5, [(0, 6)]), (5, [(1, BIG)]), (0, [(0, 1)]), (5, [(0, 1), (0, 2)]), (5, [(1, 1), (0, 4)]),
                           (5, [(1, 4), (1, 4), (0, 0)])):
            self.assertIs(can_be([(-1, 1)], cap, looks), None, looks)

    def test_all_small_days(self):
        numbers = Numbers(1)
        for bounds in small_bounds():
            for cap in (0, 1, 3):
                rows = list(histories(bounds, cap))
                for looks in looks_into(len(bounds), cap, numbers):
                    self.assertEqual(can_be(bounds, cap, looks), spans(seen(rows, looks)), (bounds, cap, looks))

    def test_looks_in_any_order(self):
        bounds = [(0, 2), (-1, 1), (-5, -5)]
        for looks in itertools.permutations([(0, 4), (1, 5), (3, 0), (0, 4)]):
            self.assertEqual(can_be(bounds, 9, list(looks)), [(4, 4), (5, 5), (4, 5), (0, 0)])

    def test_days_that_are_known_are_a_run(self):
        for seed in range(40):
            numbers = Numbers(seed)
            days = numbers.row(30, 9)
            bounds = [(day, day) for day in days]
            for cap in (0, 4, 20):
                start = numbers.below(cap + 1)
                contents = run(days, cap, start)[0]
                self.assertEqual(can_be(bounds, cap, [(0, start)]), [(content, content) for content in contents])
                self.assertEqual(can_be(bounds, cap, [])[-1], ends_from(days, cap))

    def test_of_two_histories_the_lesser_and_the_greater(self):
        for bounds in ([(-1, 2), (-2, 0), (1, 1)], [(0, 1), (-2, -1)], [(-2, 2), (-1, 0), (0, 2)]):
            for looks in ([], [(2, 1)], [(0, 2)]):
                rows = [row[2] for row in seen(histories(bounds, 3), looks)]
                for one, other in itertools.product(rows, repeat=2):
                    for pick in (min, max):
                        both = [(moment, pick(pair)) for moment, pair in enumerate(zip(one, other))]
                        told = can_be(bounds, 3, both + looks)
                        self.assertEqual(told, [(content, content) for _, content in both])

    def test_refused(self):
        check_refusals(self, can_be, BOUNDS, CAP, LOOKS)
        refused(self, NoLooks, can_be, [], 5, [(1, 0)])
        refused(self, NoLooks, can_be, [(0, 0)], 5, [(2, 0)])
        self.assertIs(can_be([(0, 0)], 5, [(1, 6)]), None)

    def test_asked(self):
        check_names(self, can_be, bounds=[(0, 2)], cap=5, looks=[(1, 4)])
        check_own(self, can_be, [(0, 2), (-1, 1)], 5, [(1, 4), (0, 3)])
        check_own(self, can_be, [], 5, [])
        told = can_be([(0, 2)], 5, [])
        self.assertEqual([type(told)] + [type(part) for part in told], [list, tuple, tuple])


class DaysFor(unittest.TestCase):
    def test_ordinary_days(self):
        bounds = [(0, 2), (-1, 1), (-5, -5)]
        self.assertEqual(days_for(bounds, 9, [], 3, 0), (0, [0, -1, -5]))
        self.assertEqual(days_for(bounds, 9, [], 3, 4), (6, [2, 1, -5]))
        self.assertEqual(days_for(bounds, 9, [(0, 8)], 3, 4), (8, [0, 1, -5]))
        self.assertEqual(days_for(bounds, 9, [(0, 8), (1, 9)], 3, 4), (8, [1, 0, -5]))
        self.assertEqual(days_for(bounds, 9, [(0, 9), (2, 9)], 1, 9), (9, [0, 0, -5]))
        self.assertIs(days_for(bounds, 9, [], 3, 5), None)

    def test_the_least_start_comes_ahead_of_the_least_days(self):
        self.assertEqual(days_for([(0, 4)], 5, [], 1, 3), (0, [3]))
        self.assertEqual(days_for([(-4, 4)], 5, [], 1, 3), (0, [3]))
        self.assertEqual(days_for([(-4, 4), (-4, 4)], 5, [], 2, 5), (0, [1, 4]))
        self.assertEqual(days_for([(-9, -2), (0, 0)], 5, [], 0, 4), (4, [-9, 0]))

    def test_the_edges(self):
        self.assertEqual(days_for([], 5, [], 0, 3), (3, []))
        self.assertIs(days_for([], 5, [(0, 2)], 0, 3), None)
        self.assertIs(days_for([], 5, [], 0, 6), None)
        self.assertIs(days_for([(0, 0)], 5, [(0, 6)], 0, 5), None)
        self.assertIs(days_for([(0, 0)], 5, [(0, 1), (0, 2)], 0, 1), None)
        self.assertEqual(days_for([(-BIG, BIG)], BIG, [], 1, BIG), (0, [BIG]))
        self.assertIs(days_for([(-BIG, BIG)], BIG, [], 1, BIG + 1), None)

    def test_all_small_days(self):
        numbers = Numbers(2)
        for bounds in small_bounds():
            for cap in (0, 2):
                rows = list(histories(bounds, cap))
                for looks in looks_into(len(bounds), cap, numbers):
                    found = seen(rows, looks)
                    for moment in range(len(bounds) + 1):
                        content = numbers.below(cap + 2)
                        so = seen(found, [(moment, content)])
                        least = min(so)[:2] if so else None
                        self.assertEqual(days_for(bounds, cap, looks, moment, content), least,
                                         (bounds, cap, looks, moment, content))

    def test_a_row_of_days_for_each_content_that_can_be(self):
        for seed in range(20):
            numbers = Numbers(seed)
            bounds = [(day, day + numbers.below(4)) for day in numbers.row(30, 6)]
            _, _, looks = looked_at(numbers, bounds, 9, 7)
            for moment, (least, greatest) in enumerate(can_be(bounds, 9, looks)):
                for content in range(11):
                    told = days_for(bounds, 9, looks, moment, content)
                    self.assertEqual(told is not None, least <= content <= greatest)
                    if told is not None:
                        start, days = told
                        contents = run(days, 9, start)[0]
                        self.assertTrue(all(low <= day <= high for (low, high), day in zip(bounds, days)))
                        self.assertEqual([contents[at] for at, _ in looks], [one for _, one in looks])
                        self.assertEqual(contents[moment], content)

    def test_refused(self):
        check_refusals(self, days_for, BOUNDS, CAP, LOOKS, MOMENT, CONTENT)
        refused(self, NoMoment, days_for, [], 5, [], 1, 0)
        refused(self, NoMoment, days_for, [(0, 0)], 5, [(0, 9)], 2, 0)
        refused(self, NoContent, days_for, [(0, 0)], 5, [(0, 9)], 1, -1)

    def test_asked(self):
        check_names(self, days_for, bounds=[(0, 2)], cap=5, looks=[(1, 4)], moment=0, content=3)
        check_own(self, days_for, [(0, 2), (-1, 1)], 5, [(1, 4), (0, 3)], 2, 4)
        check_own(self, days_for, [], 5, [], 0, 1)
        told = days_for([(0, 2)], 5, [], 1, 4)
        self.assertEqual([type(told), type(told[0]), type(told[1])], [tuple, int, list])


class FirstWrong(unittest.TestCase):
    def test_ordinary_days(self):
        bounds = [(0, 2), (-1, 1)]
        self.assertIs(first_wrong(bounds, 9, []), None)
        self.assertIs(first_wrong(bounds, 9, [(2, 4), (0, 3), (0, 3)]), None)
        self.assertEqual(first_wrong(bounds, 9, [(2, 4), (0, 3), (1, 2)]), 2)
        self.assertEqual(first_wrong(bounds, 9, [(1, 2), (2, 4), (0, 3)]), 1)
        self.assertEqual(first_wrong(bounds, 9, [(0, 10), (1, 2)]), 0)
        self.assertEqual(first_wrong(bounds, 9, [(0, 5), (0, 6), (1, 10), (2, 11)]), 1)

    def test_the_edges(self):
        self.assertIs(first_wrong([], 0, []), None)
        self.assertEqual(first_wrong([], 0, [(0, 0), (0, 0), (0, 1)]), 2)
        self.assertIs(first_wrong([(0, 0)], 0, [(0, 0), (1, 0)]), None)

    def test_all_small_days(self):
        numbers = Numbers(3)
        for bounds in small_bounds():
            for cap in (0, 3):
                rows = list(histories(bounds, cap))
                for looks in looks_into(len(bounds), cap, numbers):
                    wrong = [at for at in range(len(looks)) if not seen(rows, looks[:at + 1])]
                    self.assertEqual(first_wrong(bounds, cap, looks), wrong[0] if wrong else None, (bounds, cap, looks))

    def test_among_many_looks(self):
        numbers = Numbers(4)
        bounds = [(day, day + 3) for day in numbers.row(40, 6)]
        _, _, looks = looked_at(numbers, bounds, 9, 1)
        self.assertIs(first_wrong(bounds, 9, looks), None)
        for at in range(len(looks) + 1):
            self.assertEqual(first_wrong(bounds, 9, looks[:at] + [(0, 10)] + looks[at:]), at)
            # At odds with a look of its own moment: the later one of the two is wrong, or one ahead of it.
            odd = looks[:at] + [(17, (looks[17][1] + 1) % 10)] + looks[at:]
            told = first_wrong(bounds, 9, odd)
            self.assertTrue(min(at, 17) <= told <= max(at, 18))
            self.assertIs(can_be(bounds, 9, odd[:told + 1]), None)
            self.assertIsNot(can_be(bounds, 9, odd[:told]), None)

    def test_refused(self):
        check_refusals(self, first_wrong, BOUNDS, CAP, LOOKS)
        refused(self, NoBounds, first_wrong, [(1, 0)], -1, [(5, 0)])
        refused(self, NoCap, first_wrong, [(0, 1)], -1, [(5, 0)])

    def test_asked(self):
        check_names(self, first_wrong, bounds=[(0, 2)], cap=5, looks=[(1, 4), (1, 3)])
        check_own(self, first_wrong, [(0, 2), (-1, 1)], 5, [(1, 4), (0, 3)])


class Long(unittest.TestCase):
    def test_two_hundred_days_of_great_numbers(self):
        for seed, cap in ((1, 20), (2, BIG), (3, 7 * BIG)):
            numbers = Numbers(seed)
            bounds = [(day, day + numbers.below(cap // 3)) for day in numbers.row(200, cap // 2)]
            start, days, looks = looked_at(numbers, bounds, cap, 23)
            told = can_be(bounds, cap, looks)
            self.assertIs(first_wrong(bounds, cap, looks), None)
            for moment, content in enumerate(run(days, cap, start)[0]):
                least, greatest = told[moment]
                self.assertTrue(least <= content <= greatest)
                for edge in (least, greatest):
                    first, row = days_for(bounds, cap, looks, moment, edge)
                    contents = run(row, cap, first)[0]
                    self.assertTrue(all(low <= day <= high for (low, high), day in zip(bounds, row)))
                    self.assertEqual([contents[at] for at, _ in looks], [one for _, one in looks])
                    self.assertEqual(contents[moment], edge)
                if least > 0:
                    self.assertIs(days_for(bounds, cap, looks, moment, least - 1), None)
                self.assertIs(days_for(bounds, cap, looks, moment, greatest + 1), None)

    def test_steps_do_not_grow_with_the_numbers(self):
        numbers = Numbers(4)
        bounds = [(day, day + numbers.below(9)) for day in numbers.row(200, 15)]
        _, days, looks = looked_at(numbers, bounds, 30, 11)
        great = [[(least * 10 ** 12, greatest * 10 ** 12) for least, greatest in bounds], 30 * 10 ** 12,
                 [(moment, content * 10 ** 12) for moment, content in looks]]
        for function, most in ((can_be, 60 * 200), (first_wrong, 60 * 200)):
            steps, _ = steps_of(function, bounds, 30, looks)
            self.assertLess(steps, most)
            self.assertEqual(steps_of(function, *great)[0], steps)
        steps, _ = steps_of(days_for, bounds, 30, looks, 0, looks[0][1])
        self.assertLess(steps, 80 * 200)
        self.assertEqual(steps_of(days_for, *great, 0, looks[0][1] * 10 ** 12)[0], steps)

    def test_many_looks_soon(self):
        bounds = [(-1, 1)] * 200
        looks = [(at % 201, 3) for at in range(1000)] + [(7, 5)] + [(8, 8)] * 500
        steps, told = steps_of(first_wrong, bounds, 9, looks)
        self.assertEqual(told, 1000)
        self.assertLess(steps, 20 * 30 * 1500)
        check_soon(self, 100, can_be, [], 5, [], same=(0, 2))


if __name__ == "__main__":
    unittest.main()
