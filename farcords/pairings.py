"""Pairings: places led to one another in stretches, however long."""

from farcords.wholes import is_whole_from


def is_pairing(thing):
    """Tell whether a thing, of whatever kind, is a pairing."""
    if not isinstance(thing, tuple) or len(thing) != 4:
        return False
    low, high, long, turned = thing
    if not is_whole_from(low, 0) or not is_whole_from(high, low):
        return False
    return is_whole_from(long, 1) and isinstance(turned, bool)


def paired(one, other, long, turned):
    """The pairing of two begins, told in any order."""
    return (min(one, other), max(one, other), long, turned)


def end_of(pairing):
    """The place right behind the high stretch."""
    return pairing[1] + pairing[2]


def shift_of(pairing):
    """How far the high stretch begins above the low one."""
    return pairing[1] - pairing[0]


def led(begin, goal, long, turned, place):
    """Where a place of the stretch at the begin is led in the one at the goal, else None."""
    if not begin <= place < begin + long:
        return None
    steps = place - begin
    return goal + long - 1 - steps if turned else goal + steps


def forth(pairing, place):
    """The partner of a place of the low stretch, else None."""
    low, high, long, turned = pairing
    return led(low, high, long, turned, place)


def back(pairing, place):
    """The partner of a place of the high stretch, else None."""
    low, high, long, turned = pairing
    return led(high, low, long, turned, place)


def partners(pairing, place):
    """The places to which a place is led forth or back, each once, rising."""
    goals = [forth(pairing, place), back(pairing, place)]
    return sorted({goal for goal in goals if goal is not None})


def short(pairing, skip, many):
    """The pairing of just so many places of the low stretch, from low + skip on."""
    low, high, long, turned = pairing
    # Turned, the high stretch is left from its end, so what is skipped goes off there.
    ahead = long - skip - many if turned else skip
    return paired(low + skip, high + ahead, many, turned)


def behind(one, other):
    """The pairing that leads as the first one forth and then the second one forth, else None."""
    begin = max(one[1], other[0])
    end = min(one[1] + one[2], other[0] + other[2])
    if begin >= end:
        return None
    # Turned, the last place between is the one that is led to a stretch's begin.
    source = min(back(one, begin), back(one, end - 1))
    goal = min(forth(other, begin), forth(other, end - 1))
    return paired(source, goal, end - begin, one[3] != other[3])


def is_turn(pairing):
    """Tell whether a pairing is a turn."""
    low, high, long, turned = pairing
    return not turned and low < high <= low + long
