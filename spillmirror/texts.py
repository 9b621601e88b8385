"""All is written, and read back as it was (DOC.md, stage 10).

A word is what is written of one number. Every kind of thing has one writing:
so whatever is read is only what writes just so.
"""

from spillmirror.errors import NoFive, NoLooks, NoLot, NoText
from spillmirror.everycap import is_core, need_core
from spillmirror.fives import is_some_five
from spillmirror.lots import is_some_lot
from spillmirror.runs import need_days
from spillmirror.seen import is_bounds, is_looks, need_bounds

FIGURES = "0123456789"

# Python itself refuses to write or read numbers of some thousand figures at once: they go part by part.
PART_FIGURES = 60
PART = 10 ** 60


def amount_word(amount):
    """Write a whole number from 0 on."""
    parts = []
    while amount >= PART:
        amount, part = divmod(amount, PART)
        parts.append(str(part).zfill(PART_FIGURES))
    parts.append(str(amount))
    return "".join(reversed(parts))


def whole_word(number):
    """Write a whole number, with its sign only below 0."""
    return "-" + amount_word(-number) if number < 0 else amount_word(number)


def day_word(day):
    """Write a whole number with its sign, 0 without."""
    return "+" + amount_word(day) if day > 0 else whole_word(day)


def amount_read(word):
    """Read a whole number from 0 on."""
    if word == "" or not all(sign in FIGURES for sign in word) or (word[0] == "0" and word != "0"):
        raise NoText()
    parts = (len(word) + PART_FIGURES - 1) // PART_FIGURES
    padded = word.zfill(parts * PART_FIGURES)
    amount = 0
    for at in range(0, len(padded), PART_FIGURES):
        amount = amount * PART + int(padded[at:at + PART_FIGURES])
    return amount


def signed_read(word):
    """Read a whole number other than 0 behind its sign, which is not read."""
    amount = amount_read(word)
    if amount == 0:
        raise NoText()
    return amount


def whole_read(word):
    """Read a whole number that has its sign only below 0."""
    return -signed_read(word[1:]) if word.startswith("-") else amount_read(word)


def day_read(word):
    """Read a whole number that has its sign, 0 none."""
    if word == "0":
        return 0
    if word.startswith("+"):
        return signed_read(word[1:])
    if word.startswith("-"):
        return -signed_read(word[1:])
    raise NoText()


def words_of(text, between):
    """Tell the words of a text that has so much between each two; refuse what is no text."""
    if not isinstance(text, str):
        raise NoText()
    return text.split(between) if text else []


def show_pairs(pairs, within, between):
    """Write tuples of two whole numbers."""
    return between.join([whole_word(first) + within + whole_word(last) for first, last in pairs])


def read_pairs(text, within, between):
    """Read tuples of two whole numbers."""
    pairs = []
    for word in words_of(text, between):
        parts = word.split(within)
        if len(parts) != 2:
            raise NoText()
        pairs.append((whole_read(parts[0]), whole_read(parts[1])))
    return pairs


def show_days(days):
    """Write a row of days."""
    need_days(days)
    return " ".join([day_word(day) for day in days])


def read_days(text):
    """Read a row of days."""
    return [day_read(word) for word in words_of(text, " ")]


def show_lot(lot):
    """Write a lot of some days."""
    if not is_some_lot(lot):
        raise NoLot()
    return show_pairs(lot, "-", ",")


def read_lot(text):
    """Read a lot of some days."""
    lot = read_pairs(text, "-", ",")
    if not is_some_lot(lot):
        raise NoText()
    return lot


def show_five(five):
    """Write a five of some cap."""
    if not is_some_five(five):
        raise NoFive()
    return "/".join([whole_word(part) for part in five])


def read_five(text):
    """Read a five of some cap."""
    five = tuple([whole_read(word) for word in words_of(text, "/")])
    if not is_some_five(five):
        raise NoText()
    return five


def show_core(core):
    """Write a core that some days have."""
    need_core(core)
    rest, sizes = core
    return show_days(rest) + " | " + " ".join([whole_word(size) for size in sizes])


def read_core(text):
    """Read a core that some days have."""
    parts = words_of(text, " | ")
    if len(parts) != 2:
        raise NoText()
    core = read_days(parts[0]), [whole_read(word) for word in words_of(parts[1], " ")]
    if not is_core(core):
        raise NoText()
    return core


def show_bounds(bounds):
    """Write the bounds of days."""
    need_bounds(bounds)
    return show_pairs(bounds, "..", " ")


def read_bounds(text):
    """Read the bounds of days."""
    bounds = read_pairs(text, "..", " ")
    if not is_bounds(bounds):
        raise NoText()
    return bounds


def show_looks(looks):
    """Write looks into a tank over some days."""
    if not is_looks(looks):
        raise NoLooks()
    return show_pairs(looks, ":", " ")


def read_looks(text):
    """Read looks into a tank over some days."""
    looks = read_pairs(text, ":", " ")
    if not is_looks(looks):
        raise NoText()
    return looks
