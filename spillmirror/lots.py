"""Stretches of days, lots of them, and the best of so many (DOC.md, stage 2)."""

from spillmirror.errors import NoLot, NoMany, NoNumber, NotBest
from spillmirror.moves import rises_of
from spillmirror.runs import is_amount, is_pair, need_days


def is_stretch(thing):
    """Tell whether thing is a stretch (first, last) of some days."""
    return is_pair(thing) and 0 <= thing[0] <= thing[1]


def is_some_lot(thing):
    """Tell whether thing is a lot of some days: a rising list of stretches, each with a day between."""
    if not isinstance(thing, list):
        return False
    earliest = 0
    for part in thing:
        if not is_stretch(part) or part[0] < earliest:
            return False
        earliest = part[1] + 2
    return True


def is_lot(days, thing):
    """Tell whether thing is a lot of these days."""
    need_days(days)
    # Lots rise: none of their days is behind the last one.
    return is_some_lot(thing) and (not thing or thing[-1][1] < len(days))


def need_many(many):
    """Refuse what is no number of stretches."""
    if not is_amount(many):
        raise NoMany()


def need_lot(days, lot):
    """Refuse what is no lot of days."""
    if not is_lot(days, lot):
        raise NoLot()


def worth(days, lot):
    """Tell the sum of all days of a lot."""
    need_lot(days, lot)
    return sum(sum(days[first:last + 1]) for first, last in lot)


def best(days, many):
    """Tell the greatest worth of a lot of at most many stretches."""
    need_days(days)
    need_many(many)
    return sum(rises_of(days)[:many])


def sums_of(steps):
    """Tell the list of 0, the first step, the first two together, .. and all together."""
    told = [0]
    for step in steps:
        told.append(told[-1] + step)
    return told


def bests(days):
    """Tell the list of the best of 0 stretches, of 1, .. as long as it rises."""
    need_days(days)
    return sums_of(rises_of(days))


class BestLots:
    """The lots of the greatest worth of at most `most` stretches, in rising order.

    `fewest` is how many stretches such a lot has at least. Each stretch is
    given a price, the rise of the bests behind `fewest`. So the lots that are
    looked for are those of fewest to most stretches among the lots of the
    greatest gain, their worth less the price of each stretch: what can follow
    a day needs no table for every number of stretches.

    A chance is a tuple (gain, ways): the greatest gain from a day on, and how
    many lots have it, by the number of stretches that they yet begin.
    `free[k]` is the chance of the days from the k-th on, `held[k]` the one of
    a stretch that is begun already and holds the k-th day.
    """

    def __init__(self, days, fewest, most):
        self.days = days
        self.fewest = fewest
        self.most = most
        rises = rises_of(days) + [0]
        self.price = rises[fewest]
        self.free = [(0, {0: 1})] * (len(days) + 2)
        # Behind the last day no stretch goes on: it gains 0 in no way.
        self.held = [(0, {})] * (len(days) + 1)
        for at in reversed(range(len(days))):
            self.fill(at)

    def fill(self, at):
        """Work out the chances at a day from those of the days behind it."""
        gain, ways = better(self.held[at + 1], self.free[at + 2])
        self.held[at] = (gain + self.days[at], ways)
        begun = {count + 1: lots for count, lots in ways.items() if count < self.most}
        self.free[at] = better(self.free[at + 1], (self.held[at][0] - self.price, begun))

    def fitting(self, chance, begun):
        """Tell how many of a chance's lots fit behind so many stretches that are begun."""
        ways = chance[1]
        return sum(lots for count, lots in ways.items() if self.fewest <= begun + count <= self.most)

    def how_many(self):
        """Tell how many lots there are."""
        return self.fitting(self.free[0], 0)

    def begun_at(self, first, begun):
        """Tell how many lots begin a stretch, the begun-th, with this day."""
        if self.held[first][0] - self.price < self.free[first][0]:
            return 0
        return self.fitting(self.held[first], begun)

    def ended_at(self, last, begun):
        """Tell how many lots end a stretch, the begun-th, with this day."""
        behind = self.free[last + 2]
        if self.days[last] + behind[0] < self.held[last][0]:
            return 0
        return self.fitting(behind, begun)

    def numbered(self, number):
        """Tell the number-th of the lots, from 0."""
        lot = []
        at = 0
        while True:
            # A lot that is done comes ahead of all that begin as it does.
            if len(lot) >= self.fewest and 0 in self.free[at][1]:
                if number == 0:
                    return lot
                number -= 1
            begun = len(lot) + 1
            while number >= (lots := self.begun_at(at, begun)):
                number -= lots
                at += 1
            first = at
            while number >= (lots := self.ended_at(at, begun)):
                number -= lots
                at += 1
            lot.append((first, at))
            at += 2


def better(chance, other):
    """Tell the chance of the greater gain, or both together where they gain as much."""
    if chance[0] > other[0]:
        return chance
    if chance[0] < other[0]:
        return other
    ways = dict(chance[1])
    for count, lots in other[1].items():
        ways[count] = ways.get(count, 0) + lots
    return chance[0], ways


def fewest_for(days, many):
    """Tell the fewest stretches of a lot of the greatest worth of at most many."""
    return min(many, len(rises_of(days)))


def best_lot(days, many):
    """Tell the least of the lots of the fewest stretches that have the greatest worth."""
    need_days(days)
    need_many(many)
    fewest = fewest_for(days, many)
    return BestLots(days, fewest, fewest).numbered(0)


def lots_of_best(days, many):
    """Tell how many lots of at most many stretches have the greatest worth."""
    need_days(days)
    need_many(many)
    return BestLots(days, fewest_for(days, many), many).how_many()


def nth_lot(days, many, number):
    """Tell the number-th, from 0, of the lots that lots_of_best counts, as lists rise."""
    need_days(days)
    need_many(many)
    found = BestLots(days, fewest_for(days, many), many)
    if not is_amount(number) or number >= found.how_many():
        raise NoNumber()
    return found.numbered(number)


def greatest_part(row, low, high):
    """Tell (sum, first, last) of the days from low to high next to one another of the greatest sum.

    Of as great ones it is the least; where none is above 0, the sum is 0.
    """
    top = (0, low, low)
    total = 0
    first = low
    for at in range(low, high + 1):
        # A part of 0 ahead is kept: so the first day is the least.
        if total < 0:
            total = 0
            first = at
        total += row[at]
        if total > top[0]:
            top = (total, first, at)
    return top


def gaps_of(days, lot):
    """Tell (low, high) of the days between which a stretch could be put into a lot."""
    lows = [0] + [last + 2 for first, last in lot]
    highs = [first - 2 for first, last in lot] + [len(days) - 1]
    return list(zip(lows, highs))


def next_stretch(days, lot):
    """Tell ("put", first, last) or ("cut", first, last), or None where nothing is gained."""
    # worth refuses what is no row of days, and what is no lot.
    if worth(days, lot) != best(days, len(lot)):
        raise NotBest()
    turned = [-day for day in days]
    tries = [("put", days, low, high) for low, high in gaps_of(days, lot)]
    tries += [("cut", turned, first + 1, last - 1) for first, last in lot]
    gain = 0
    step = None
    # The tries stand in the order of the ties: only a greater gain takes over.
    for word, row, low, high in tries:
        gained, first, last = greatest_part(row, low, high)
        if gained > gain:
            gain = gained
            step = (word, first, last)
    return step
