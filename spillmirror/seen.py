"""Days known between bounds, and looks into the tank: what its contents can be (DOC.md, stage 7).

Whatever can be the content at a moment is a span (least, greatest): all whole
numbers from the least to the greatest, none where the least is the greater.
"""

from spillmirror.errors import NoBounds, NoContent, NoLooks, NoMoment
from spillmirror.runs import day_done, is_amount, is_pair, need_cap


def is_bounds(thing):
    """Tell whether thing is a list of bounds: tuples (least, greatest), least no greater."""
    return isinstance(thing, list) and all(is_pair(part) and part[0] <= part[1] for part in thing)


def is_looks(thing):
    """Tell whether thing is a list of looks (moment, content) into a tank over some days."""
    return isinstance(thing, list) and all(is_pair(part) and part[0] >= 0 and part[1] >= 0 for part in thing)


def need_bounds(bounds):
    """Refuse what is no list of bounds."""
    if not is_bounds(bounds):
        raise NoBounds()


def need_looks(looks, many_days):
    """Refuse what is no list of looks into a tank over so many days."""
    if not is_looks(looks) or any(moment > many_days for moment, _ in looks):
        raise NoLooks()


def need_known(bounds, cap, looks):
    """Refuse bounds, a cap or looks that are none, in this order."""
    need_bounds(bounds)
    need_cap(cap)
    need_looks(looks, len(bounds))


def both(span, other):
    """Tell the span of what is in the one and in the other."""
    return max(span[0], other[0]), min(span[1], other[1])


def looked(many_days, cap, looks):
    """Tell, for each moment, the span that the cap and the looks leave."""
    spans = [(0, cap)] * (many_days + 1)
    for moment, content in looks:
        spans[moment] = both(spans[moment], (content, content))
    return spans


def behind_day(span, bound, cap):
    """Tell the span behind a day between bounds, by the one ahead of it."""
    return day_done(span[0], bound[0], cap)[0], day_done(span[1], bound[1], cap)[0]


def ahead_of_day(span, bound, cap):
    """Tell a span of all contents from which a day between bounds can lead into a span.

    It may go beyond what the tank can hold.
    """
    # Whatever is drawn too much ends at 0, whatever is poured too much at the cap.
    least = span[0] - bound[1] if span[0] > 0 else 0
    greatest = span[1] - bound[0] if span[1] < cap else cap
    return least, greatest


def spans_of(bounds, cap, looks):
    """Tell the span of each moment, or None where nothing can be."""
    spans = looked(len(bounds), cap, looks)
    for at, bound in enumerate(bounds):
        if spans[at][0] > spans[at][1]:
            return None
        spans[at + 1] = both(spans[at + 1], behind_day(spans[at], bound, cap))
    if spans[-1][0] > spans[-1][1]:
        return None
    # What can come about must also lead on to the last moment.
    for at in reversed(range(len(bounds))):
        spans[at] = both(spans[at], ahead_of_day(spans[at + 1], bounds[at], cap))
    return spans


def can_be(bounds, cap, looks):
    """Tell (least, greatest) of the contents that can be, for each moment; None where nothing can."""
    need_known(bounds, cap, looks)
    return spans_of(bounds, cap, looks)


def least_days(bounds, cap, spans):
    """Tell the least days from the least start that keep within the spans of all moments."""
    content = spans[0][0]
    days = []
    for at, (least, _) in enumerate(bounds):
        day = least
        # Only where the least day leads below the span does it take a greater one, and no more than just enough.
        if day_done(content, day, cap)[0] < spans[at + 1][0]:
            day = spans[at + 1][0] - content
        days.append(day)
        content = day_done(content, day, cap)[0]
    return days


def days_for(bounds, cap, looks, moment, content):
    """Tell the least (start, days) by which the tank holds content at a moment; None where it cannot."""
    need_known(bounds, cap, looks)
    if not is_amount(moment) or moment > len(bounds):
        raise NoMoment()
    if not is_amount(content):
        raise NoContent()
    spans = spans_of(bounds, cap, looks + [(moment, content)])
    if spans is None:
        return None
    return spans[0][0], least_days(bounds, cap, spans)


def first_wrong(bounds, cap, looks):
    """Tell the number of the first look that cannot be with all those ahead of it; None where all can."""
    need_known(bounds, cap, looks)
    if spans_of(bounds, cap, looks) is not None:
        return None
    # Looks that cannot be stay so with more of them: so the halves can be tried.
    first = 0
    last = len(looks) - 1
    while first < last:
        middle = (first + last) // 2
        if spans_of(bounds, cap, looks[:middle + 1]) is None:
            last = middle
        else:
            first = middle + 1
    return first
