"""Points 4 and 25: all is written, and read back as it was."""

import copy
import itertools
import re
import unittest

from asking import (BIG, NO_BOUNDS, NO_CORES, NO_DAYS, NO_FIVES, NO_LISTS, NO_LOOKS, NO_PAIRS, check_names, check_own,
                    lists_with, refused)
from listing import LOTS, Numbers, small_rows, steps_of
from spillmirror.errors import NoBounds, NoCore, NoDays, NoFive, NoLooks, NoLot, NoText
from spillmirror.everycap import core
from spillmirror.fives import five, is_five
from spillmirror.texts import (read_bounds, read_core, read_days, read_five, read_looks, read_lot, show_bounds, show_core,
                               show_days, show_five, show_looks, show_lot)

HUGE = 10 ** 2990 + 7

DAYS = [
    ("+5 -3 0", [5, -3, 0]), ("", []), ("0", [0]), ("0 0", [0, 0]), ("+1", [1]), ("-1", [-1]), ("+10 -20 +300", [10, -20, 300]),
    ("+999999999999999 -999999999999999", [BIG, -BIG]),
]
LOTS_WRITTEN = [
    ("0-2,5-5", [(0, 2), (5, 5)]), ("", []), ("0-0", [(0, 0)]), ("3-199", [(3, 199)]), ("0-0,2-2,4-10", [(0, 0), (2, 2), (4, 10)]),
    ("100-999999999999999", [(100, BIG)]),
]
FIVES = [
    ("0/0/0/0/5", (0, 0, 0, 0, 5)), ("-1/0/0/1/4", (-1, 0, 0, 1, 4)), ("0/0/0/0/0", (0, 0, 0, 0, 0)),
    ("1/3/4/2/2", (1, 3, 4, 2, 2)), ("-9/0/9/0/0", (-9, 0, 9, 0, 0)), ("-10/0/0/10/10", (-10, 0, 0, 10, 10)),
    ("999999999999999/999999999999999/0/7/7", (BIG, BIG, 0, 7, 7)),
]
CORES = [
    ("+6 -5 +2 | 1", ([6, -5, 2], [1])), (" | ", ([], [])), ("+5 | ", ([5], [])), ("-5 | 5 5 1", ([-5], [5, 5, 1])),
    ("+2 -10 +4 | 10 3", ([2, -10, 4], [10, 3])),
]
BOUNDS = [
    ("0..2 -1..1 -5..-5", [(0, 2), (-1, 1), (-5, -5)]), ("", []), ("0..0", [(0, 0)]), ("-20..-10", [(-20, -10)]),
    ("-999999999999999..999999999999999", [(-BIG, BIG)]),
]
LOOKS = [
    ("0:5 3:2", [(0, 5), (3, 2)]), ("", []), ("0:0", [(0, 0)]), ("3:2 0:10 3:2 3:1", [(3, 2), (0, 10), (3, 2), (3, 1)]),
    ("200:999999999999999", [(200, BIG)]),
]
KINDS = [(show_days, read_days, DAYS), (show_lot, read_lot, LOTS_WRITTEN), (show_five, read_five, FIVES),
         (show_core, read_core, CORES), (show_bounds, read_bounds, BOUNDS), (show_looks, read_looks, LOOKS)]
"""(what writes, what reads, (text, thing) ..) of each kind."""

NO_LOTS = NO_LISTS + lists_with(NO_PAIRS + [(1, 0), (-1, 0), (-2, -1), (BIG, 0), (0, -1)], (3, 4), (6, 6))
NO_LOTS += [[(0, 0), (1, 1)], [(0, 2), (3, 4)], [(0, 2), (2, 4)], [(0, 2), (1, 1)], [(4, 4), (0, 0)], [(1, 2), (1, 2)],
            [(0, 2), (4, 4), (5, 5)]]

FIVES_OF_GREATER_CAPS = [(0, 0, 0, 0, 6), (0, 0, 0, 6, 6), (-1, 0, 0, 6, 6), (1, 0, 0, 0, 5), (4, 0, 0, 0, 2), (6, 0, 0, 0, 0),
                         (0, 0, 4, 2, 2), (4, 0, 0, 2, 2), (BIG, 0, 0, 2, 2), (BIG, BIG, 3, 3, 3)]
# Not by `in`, to which a truth is a number.
FIVES_OF_NO_CAP = [thing for thing in NO_FIVES if repr(thing) not in map(repr, FIVES_OF_GREATER_CAPS)]

NO_TEXTS = [None, True, False, 0, 5, b"", b"+5", b"0-0", [], (), ["+5"], ("0-0",), {}, {"": 1}, object(), str, [""], range(0)]

NUMBERS = ["", "+", "-", "+0", "-0", "00", "+00", "+05", "-05", "--5", "++5", "+-5", "-+5", "5-", "5+", " 5", "5 ", "+ 5", "- 5",
           "1_000", "1,000", "0x1", "1e3", "5.0", "five", "+\u0665", "\u0665", "\u00b2", "\uff15", "5\n", "\n5", "\t5", "5\x00",
           "\u22125", "\u00a05", "None", "True", "()", "[]", "+()", "\ud800", "0" * 70, "+" + "0" * 60 + "1"]
"""Words that write no number, but for the first one, no word at all."""


def with_word(text, number):
    """Texts with another word in place of the figures of each of the text's numbers."""
    for found in re.finditer("[0-9]+", text):
        yield text[:found.start()] + number + text[found.end():]


class Written(unittest.TestCase):
    def test_each_kind(self):
        for show, read, rows in KINDS:
            for text, thing in rows:
                self.assertEqual(show(thing), text)
                self.assertEqual(read(text), thing)
                self.assertEqual(type(read(text)), type(thing))

    def test_small_rows_and_what_is_told_of_them(self):
        for days in small_rows():
            self.assertEqual(read_days(show_days(days)), days)
            self.assertEqual(read_core(show_core(core(days))), core(days))
            for cap in (0, 3):
                self.assertEqual(read_five(show_five(five(days, cap))), five(days, cap))
        for lots in LOTS:
            for lot in lots:
                self.assertEqual(read_lot(show_lot(lot)), lot)

    def test_each_thing_has_its_own_text(self):
        rows = [tuple(days) for days in itertools.product(range(-12, 13), repeat=2)]
        self.assertEqual(len({show_days(list(days)) for days in rows}), len(rows))
        self.assertEqual(len({show_lot(lot) for lot in LOTS[8]}), len(LOTS[8]))
        pairs = [pair for pair in rows if pair[0] <= pair[1]]
        self.assertEqual(len({show_bounds([pair]) for pair in pairs}), len(pairs))

    def test_long_rows(self):
        for seed, greatest in ((1, 1), (2, 10 ** 6), (3, BIG)):
            numbers = Numbers(seed)
            days = numbers.row(200, greatest)
            bounds = [(day, day + numbers.below(greatest)) for day in days]
            looks = [(numbers.below(200), numbers.below(greatest)) for _ in range(200)]
            for show, read, thing in ((show_days, read_days, days), (show_core, read_core, core(days)),
                                      (show_five, read_five, five(days, greatest)), (show_bounds, read_bounds, bounds),
                                      (show_looks, read_looks, looks), (show_lot, read_lot, [(at, at) for at in range(0, 200, 2)])):
                self.assertEqual(read(show(thing)), thing)
            self.assertEqual(show_days(days), " ".join(f"{day:+d}" if day else "0" for day in days))
            self.assertEqual(show_bounds(bounds), " ".join(f"{low}..{high}" for low, high in bounds))

    def test_numbers_of_many_figures(self):
        for many in (1, 2, 59, 60, 61, 119, 120, 121, 180, 181, 899, 2990):
            for figures in ("1" + "0" * (many - 1), "9" * many, ("1234567890" * 299)[:many], "1" + "0" * (many - 2) + "1"):
                number = int(figures)
                figures = str(number)
                self.assertEqual(show_days([number, -number]), "+" + figures + " -" + figures)
                self.assertEqual(read_days("+" + figures + " -" + figures), [number, -number])
                self.assertEqual(read_looks("0:" + figures), [(0, number)])
                self.assertEqual(show_looks([(0, number)]), "0:" + figures)
                self.assertEqual(read_bounds("-" + figures + ".." + figures), [(-number, number)])
        self.assertEqual(read_lot(show_lot([(0, HUGE), (HUGE + 2, HUGE * 9)])), [(0, HUGE), (HUGE + 2, HUGE * 9)])
        self.assertEqual(read_five(show_five((HUGE, HUGE, 3, 5, 5))), (HUGE, HUGE, 3, 5, 5))
        self.assertEqual(read_core(show_core(([HUGE, -1], [HUGE, 7]))), ([HUGE, -1], [HUGE, 7]))

    def test_more_figures_than_python_itself_writes(self):
        text = "+1" + "0" * 4999 + "7 -" + "98" * 3000 + " 0"
        days = read_days(text)
        self.assertEqual(days[0], 10 ** 5000 + 7)
        self.assertEqual(days[1], -98 * (10 ** 6000 - 1) // 99)
        self.assertEqual(show_days(days), text)


class ShowRefused(unittest.TestCase):
    def check(self, show, error, bads):
        for bad in bads:
            refused(self, error, show, bad)

    def test_days(self):
        self.check(show_days, NoDays, NO_DAYS)

    def test_lots(self):
        self.check(show_lot, NoLot, NO_LOTS)

    def test_fives(self):
        self.check(show_five, NoFive, FIVES_OF_NO_CAP)
        for thing in FIVES_OF_GREATER_CAPS:
            self.assertIn(thing, NO_FIVES)
            self.assertTrue(is_five(2 * BIG, thing))
            self.assertEqual(show_five(thing), "/".join(map(str, thing)))

    def test_fives_of_some_cap(self):
        for thing in itertools.product(range(-3, 4), range(-1, 3), range(-1, 3), range(-1, 3), range(-1, 3)):
            if any(is_five(cap, thing) for cap in range(9)):
                self.assertEqual(show_five(thing), "/".join(map(str, thing)))
            else:
                refused(self, NoFive, show_five, thing)

    def test_cores(self):
        self.check(show_core, NoCore, NO_CORES)

    def test_bounds(self):
        self.check(show_bounds, NoBounds, NO_BOUNDS)

    def test_looks(self):
        self.check(show_looks, NoLooks, NO_LOOKS)
        # No days are told here: a moment may be as late as any.
        self.assertEqual(show_looks([(BIG, 1), (0, BIG)]), "999999999999999:1 0:999999999999999")

    def test_deep_things(self):
        deep = []
        for _ in range(39):
            deep = [deep]
        for show, error in ((show_days, NoDays), (show_lot, NoLot), (show_five, NoFive), (show_core, NoCore),
                            (show_bounds, NoBounds), (show_looks, NoLooks)):
            refused(self, error, show, deep)


class ReadRefused(unittest.TestCase):
    def test_no_texts(self):
        for _, read, _ in KINDS:
            for thing in NO_TEXTS:
                refused(self, NoText, read, thing)

    def test_the_empty_text(self):
        self.assertEqual([read("") for read in (read_days, read_lot, read_bounds, read_looks)], [[], [], [], []])
        refused(self, NoText, read_five, "")
        refused(self, NoText, read_core, "")

    def test_words_that_are_no_numbers(self):
        for _, read, rows in KINDS:
            for text, _ in rows:
                for number in NUMBERS:
                    for odd in with_word(text, number):
                        # A text of one number less may be one: nothing is written of none.
                        if odd != "" and not odd.endswith("| "):
                            refused(self, NoText, read, odd)

    def test_signs_in_their_places(self):
        for text in ("5", "+5 3", "5 -3 0", "12"):
            refused(self, NoText, read_days, text)
        refused(self, NoText, read_lot, "+0-2")
        refused(self, NoText, read_lot, "0-+2")
        refused(self, NoText, read_lot, "-0-2")
        refused(self, NoText, read_five, "+1/0/0/0/0")
        refused(self, NoText, read_bounds, "+1..2")
        refused(self, NoText, read_bounds, "1..+2")
        refused(self, NoText, read_looks, "+1:2")
        refused(self, NoText, read_looks, "-1:2")
        refused(self, NoText, read_looks, "1:-2")
        refused(self, NoText, read_core, "6 -5 | 1")
        refused(self, NoText, read_core, "+6 -5 | +1")
        refused(self, NoText, read_core, "+6 -5 | -1")

    def test_blanks_and_marks(self):
        for _, read, rows in KINDS:
            for text, _ in rows:
                for odd in (" " + text, text + " ", text + "\n", text + ",", "," + text, text + "-", text + "|", text + " |",
                            text + ":", text + "..", text + "/", text.replace(" ", "  ", 1), text.replace(" ", "\t", 1),
                            text.replace(" ", ",", 1), text.replace(",", ", ", 1), text.replace(",", " ", 1),
                            text.replace(":", "-", 1), text.replace(":", "::", 1), text.replace("..", ".", 1),
                            text.replace("..", "...", 1), text.replace("..", "-", 1), text.replace("|", "||", 1),
                            text.replace(" | ", "|", 1), text.replace(" | ", " ", 1), text.replace("/", "//", 1),
                            "(" + text + ")", "[" + text + "]", "'" + text + "'"):
                    if odd != text:
                        refused(self, NoText, read, odd)
        for _, read, _ in KINDS:
            for odd in ("()", "[]", " ", "  ", ",", "-", "..", ":", "/", "////", "|", " || ", " |  | ", "| ", " |", "0..0,0..0", "0:0,0:0"):
                refused(self, NoText, read, odd)

    def test_parts_too_many_or_too_few(self):
        for odd in ("0", "0-", "-0", "0-1-2", "0-1,", ",0-1", "0-1,,3-4", "0-1,3"):
            refused(self, NoText, read_lot, odd)
        for odd in ("0", "0/0/0/0", "0/0/0/0/0/0", "/0/0/0/0", "0/0/0/0/", "0/0/0/0/5,0/0/0/0/5", "0/0/0/0/5 0/0/0/0/5"):
            refused(self, NoText, read_five, odd)
        for odd in ("+5", "+5 | 1 | 1", "+5 |", "| 1", "+5 | 1 |", "+5 | 1 | ", " | +5 | 1", "+5 |1", "+5| 1"):
            refused(self, NoText, read_core, odd)
        for odd in ("0", "0..", "..0", "0..1..2", "0...1", "0.1", "0..1 2", "0..1  0..1"):
            refused(self, NoText, read_bounds, odd)
        for odd in ("0", "0:", ":0", "0:1:2", "0:1 2", "0:1  0:1"):
            refused(self, NoText, read_looks, odd)

    def test_numbers_that_do_not_fit_together(self):
        for odd in ("1-0", "0-0,1-1", "0-2,3-4", "0-2,2-4", "4-4,0-0", "0-2,0-2"):
            refused(self, NoText, read_lot, odd)
        for thing in FIVES_OF_NO_CAP:
            if isinstance(thing, tuple) and len(thing) == 5 and all(type(part) is int for part in thing):
                refused(self, NoText, read_five, "/".join(map(str, thing)))
        for odd in ("0 | ", "+5 0 | ", "+5 +5 | ", "+5 -3 +5 | ", "+5 -5 +5 | ", "+5 | 0", "+5 | 1 2", "+5 | 6", " | 1", "+3 | 4 1"):
            refused(self, NoText, read_core, odd)
        for odd in ("1..0", "0..-1", "-1..-2", "0..1 3..2"):
            refused(self, NoText, read_bounds, odd)


class OneWriting(unittest.TestCase):
    """Each short text of some signs is refused, or is just what is written of what is read."""

    def check(self, show, read, signs, most, pattern):
        found = 0
        for many in range(most + 1):
            for text in map("".join, itertools.product(signs, repeat=many)):
                try:
                    thing = read(text)
                except NoText:
                    thing = None
                if thing is not None:
                    self.assertEqual(show(thing), text)
                    self.assertRegex(text, pattern)
                    found += 1
        return found

    def test_days(self):
        day = "([+-][1-9][0-9]*|0)"
        pattern = f"^({day}( {day})*)?$"
        found = self.check(show_days, read_days, "+-01 ", 6, pattern)
        texts = (map("".join, itertools.product("+-01 ", repeat=many)) for many in range(7))
        self.assertEqual(found, sum(bool(re.search(pattern, text)) for row in texts for text in row))

    def test_lots(self):
        self.assertGreater(self.check(show_lot, read_lot, "-0123,", 7, "^([0-9]+-[0-9]+(,[0-9]+-[0-9]+)*)?$"), 50)

    def test_fives(self):
        parts = ["0", "1", "-1", "00", "-0", "", "+1", "10"]
        count = 0
        for words in itertools.product(parts, repeat=5):
            text = "/".join(words)
            try:
                self.assertEqual(show_five(read_five(text)), text)
                count += 1
            except NoText:
                pass
        fives = set(itertools.product((0, 1, -1, 10), repeat=5))
        self.assertEqual(count, sum(any(is_five(cap, thing) for cap in range(31)) for thing in fives))

    def test_cores(self):
        self.assertGreater(self.check(show_core, read_core, "+-12 |", 7, "^([+-][0-9]+( [+-][0-9]+)*)? [|] ([0-9]+( [0-9]+)*)?$"), 40)

    def test_bounds(self):
        self.assertGreater(self.check(show_bounds, read_bounds, "-01. ", 7, "^(-?[0-9]+[.][.]-?[0-9]+( -?[0-9]+[.][.]-?[0-9]+)*)?$"), 30)

    def test_looks(self):
        self.assertGreater(self.check(show_looks, read_looks, "-01: ", 7, "^([0-9]+:[0-9]+( [0-9]+:[0-9]+)*)?$"), 60)


class Asked(unittest.TestCase):
    def test_names_and_lists_of_ones_own(self):
        for name, (show, read, rows) in zip(("days", "lot", "five", "core", "bounds", "looks"), KINDS):
            for text, thing in rows:
                check_names(self, show, **{name: thing})
                check_names(self, read, text=text)
                check_own(self, show, copy.deepcopy(thing))
                check_own(self, read, text)
                self.assertIs(type(show(thing)), str)

    def test_steps_grow_with_the_figures_alone(self):
        days = Numbers(1).row(200, BIG // 10)
        steps, text = steps_of(show_days, days)
        self.assertLess(steps, 20 * 200)
        self.assertEqual(steps_of(show_days, [day * 10 ** 12 for day in days])[0], steps)
        self.assertLess(steps_of(read_days, text)[0], 20 * 200 + 4 * len(text))
        self.assertLess(steps_of(read_days, "+" + "7" * 3000)[0], 5 * 3000)
        self.assertLess(steps_of(show_days, [HUGE])[0], 3000)


if __name__ == "__main__":
    unittest.main()
