"""Deeds: each leads a hall to another one with the same rooms, long stretches of places at once."""

from farcords.errors import NoDeed
from farcords.pairings import back, end_of, is_turn, paired, shift_of, short
from farcords.weighings import backward, length, part, put_to, sorts, wound
from farcords.wholes import is_whole_from

SIDES = ("low", "high")

FORMS = {
    "gone": ("pairing",),
    "folded": ("pairing",),
    "joined": ("pairing", "pairing"),
    "carried": ("pairing", "pairing", "side"),
    "cut": ("pairing", "place"),
    "free": ("place",),
}


def may_go(pairing):
    """Tell whether a pairing leads each place to itself."""
    low, high, long, turned = pairing
    return low == high and (not turned or long == 1)


def may_fold(pairing):
    """Tell whether a turned pairing leads the same pairs there and back."""
    low, high, long, turned = pairing
    return turned and high < low + long and not may_go(pairing)


def folded(pairing):
    """The pairing that has each of the pairs once, and no place led to itself."""
    low, high, long, turned = pairing
    both = low + high + long - 1
    many = (both + 1) // 2 - low
    return (low, both + 1 - low - many, many, True)


def may_join(one, other):
    """Tell whether two pairings are turns that share enough places to be one turn."""
    if not is_turn(one) or not is_turn(other):
        return False
    shared = min(end_of(one), end_of(other)) - max(one[0], other[0])
    return shared >= shift_of(one) + shift_of(other)


def greatest_divisor(one, other):
    """The greatest number that divides both."""
    while other:
        one, other = other, one % other
    return one


def joined(one, other):
    """The turn that leads as both turns together."""
    shift = greatest_divisor(shift_of(one), shift_of(other))
    low = min(one[0], other[0])
    end = max(end_of(one), end_of(other))
    return (low, low + shift, end - low - shift, False)


def may_lead(pairing):
    """Tell whether by a pairing each place of its high stretch is led back below that stretch at last."""
    low, high, long, turned = pairing
    return low < high and (not turned or high >= low + long)


def begin_at(pairing, side):
    """Where the told stretch begins."""
    return pairing[SIDES.index(side)]


def may_carry(leader, pairing, side):
    """Tell whether the told stretch of a pairing lies within the leader's high stretch."""
    begin = begin_at(pairing, side)
    return may_lead(leader) and leader[1] <= begin and begin + pairing[2] <= end_of(leader)


def carried(leader, pairing, side):
    """The pairing with the told stretch led back by the leader, as far as it goes."""
    low, high, long, turned = pairing
    begin = begin_at(pairing, side)
    other = low + high - begin
    if leader[3]:
        return paired(back(leader, begin + long - 1), other, long, not turned)
    goal = leader[0] + (begin - leader[0]) % shift_of(leader)
    return paired(goal, other, long, turned)


def kept_below(pairing, end):
    """In a list the pairing of those pairs whose high place is below the end, none where there are none."""
    low, high, long, turned = pairing
    many = end - high
    if many == 0:
        return []
    return [short(pairing, long - many if turned else 0, many)]


def cut_weighing(weighing, leader, end):
    """The weighing ahead of the end, with the weights from there on put where the leader leads them back."""
    kept = part(weighing, 0, end)
    off = part(weighing, end, length(weighing))
    if leader[3]:
        return put_to(kept, leader[0], backward(off))
    shift = shift_of(leader)
    # What is led back in one step needs no winding, which would reach over places that get nothing.
    return put_to(kept, end - shift, off if length(off) <= shift else wound(off, shift))


def demand(is_deed):
    """Refuse what is no deed of the hall."""
    if not is_deed:
        raise NoDeed("the hall has no such deed")


def replaced(pairings, k, coming):
    """The pairings with those that come in the place of the pairing k."""
    return pairings[:k] + coming + pairings[k + 1:]


def all_end_by(pairings, end):
    """Tell whether no pairing has a place from the end on."""
    return all([end_of(pairing) <= end for pairing in pairings])


def do_gone(hall, deed):
    """The hall without a pairing that leads each place to itself."""
    n, pairings, weighing = hall
    k = deed[1]
    demand(may_go(pairings[k]))
    return ((n, replaced(pairings, k, []), list(weighing)), [])


def do_folded(hall, deed):
    """The hall with a pairing folded."""
    n, pairings, weighing = hall
    k = deed[1]
    demand(may_fold(pairings[k]))
    return ((n, replaced(pairings, k, [folded(pairings[k])]), list(weighing)), [])


def do_joined(hall, deed):
    """The hall with two turns made one."""
    n, pairings, weighing = hall
    j, k = deed[1:]
    demand(j < k and may_join(pairings[j], pairings[k]))
    # The later one goes first, so that the number of the other one still holds.
    fewer = replaced(pairings, k, [])
    return ((n, replaced(fewer, j, [joined(pairings[j], pairings[k])]), list(weighing)), [])


def do_carried(hall, deed):
    """The hall with a stretch of one pairing carried by another one."""
    n, pairings, weighing = hall
    j, k, side = deed[1:]
    demand(j != k and may_carry(pairings[j], pairings[k], side))
    return ((n, replaced(pairings, k, [carried(pairings[j], pairings[k], side)]), list(weighing)), [])


def do_cut(hall, deed):
    """The hall ahead of the end, the other places put to their own rooms."""
    n, pairings, weighing = hall
    j, end = deed[1:]
    leader = pairings[j]
    demand(may_lead(leader) and end_of(leader) == n and leader[1] <= end)
    demand(all_end_by(replaced(pairings, j, []), end))
    return ((end, replaced(pairings, j, kept_below(leader, end)), cut_weighing(weighing, leader, end)), [])


def do_free(hall, deed):
    """The hall ahead of the end, the other places counted as rooms."""
    n, pairings, weighing = hall
    end = deed[1]
    demand(all_end_by(pairings, end))
    return ((end, list(pairings), part(weighing, 0, end)), sorts(part(weighing, end, n)))


DEEDS = {
    "gone": do_gone,
    "folded": do_folded,
    "joined": do_joined,
    "carried": do_carried,
    "cut": do_cut,
    "free": do_free,
}


def fits(thing, kind, hall):
    """Tell whether a thing is of the kind told: a pairing's number in the hall, a place of it, or a side."""
    if kind == "side":
        return isinstance(thing, str) and thing in SIDES
    bound = hall[0] if kind == "place" else len(hall[1])
    return is_whole_from(thing, 0) and thing < bound


def is_formed(hall, deed):
    """Tell whether a thing is a tuple of a deed's word and what belongs to it, in this hall."""
    if not isinstance(deed, tuple) or not deed or not isinstance(deed[0], str) or deed[0] not in FORMS:
        return False
    form = FORMS[deed[0]]
    if len(deed) != 1 + len(form):
        return False
    return all([fits(thing, kind, hall) for thing, kind in zip(deed[1:], form)])


def deed_done(hall, deed):
    """The hall behind the deed, and the sorts of the rooms that it counts."""
    demand(is_formed(hall, deed))
    doing = DEEDS[deed[0]]
    return doing(hall, deed)
