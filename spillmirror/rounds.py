"""Days that come again and again, and the contents that stay (DOC.md, stage 8)."""

from spillmirror.fives import five, gain_of, passed
from spillmirror.lots import need_many
from spillmirror.runs import need_tank


def staying(told):
    """Tell (least, greatest) of the contents that are the same behind the days of a five."""
    low, high = told[3:]
    gain = gain_of(told)
    if gain == 0:
        return low, high
    # A content that gains each round stays only where it spills as much, one that loses where it lacks as much.
    content = high + gain if gain > 0 else low + gain
    return content, content


def stays(days, cap):
    """Tell (least, greatest) of the contents that are the same behind a round."""
    return staying(five(days, cap))


def rounds(days, cap, start):
    """Tell (many, content): after how many rounds, at least, the content stays, and which it is."""
    need_tank(days, cap, start)
    told = five(days, cap)
    least, greatest = staying(told)
    if least <= start <= greatest:
        return 0, start
    content = passed(told, start)[0]
    if least <= content <= greatest:
        return 1, content
    # From here on each round gains as much, the last one perhaps less, up or down to the one content that stays.
    step = abs(gain_of(told))
    return 1 + (abs(least - content) + step - 1) // step, least


def round_of(days, cap, start, many):
    """Tell (content, spilled, lacking) behind so many rounds."""
    need_tank(days, cap, start)
    need_many(many)
    if many == 0:
        return start, 0, 0
    told = five(days, cap)
    content, spilled, lacking = passed(told, start)
    gain = gain_of(told)
    gained = (many - 1) * gain
    # Where a round gains, none but the first is short of low: each lacks the same, and what is spilled is
    # what is left over; where it loses, the other way about.
    if gain >= 0:
        end = min(content + gained, told[4] + gain)
        lacking += (many - 1) * told[2]
        spilled = start + many * told[0] + lacking - end
    else:
        end = max(content + gained, told[3] + gain)
        spilled += (many - 1) * told[1]
        lacking = end - start - many * told[0] + spilled
    return end, spilled, lacking
