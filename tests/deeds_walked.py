"""Point 7 walked place by place: what each deed of a small hall leads to, None where it is no deed of it."""

from tests.walked import gathered, pairs, spread, tallied, together


def whole(thing, below):
    return type(thing) is int and 0 <= thing < below


def places_of(pairing):
    """All places that a pairing has."""
    return {place for pair in pairs(pairing) for place in pair}


def stretch(pairing, side):
    low, high, long, turned = pairing
    begin = low if side == "low" else high
    return list(range(begin, begin + long))


def is_turn(pairing):
    low, high, long, turned = pairing
    return not turned and low < high <= low + long


def leads(pairing):
    low, high, long, turned = pairing
    return low < high and (not turned or high >= low + long)


def way_back(pairing):
    """The dict from each place of the high stretch to its partner."""
    return {goal: place for place, goal in pairs(pairing)}


def ordered(one, other, long, turned):
    return (min(one, other), max(one, other), long, turned)


def gone(hall, k):
    n, pairings, weighing = hall
    low, high, long, turned = pairings[k]
    if low == high and (not turned or long == 1):
        return (n, pairings[:k] + pairings[k + 1:], weighing), []
    return None


def folded(hall, k):
    n, pairings, weighing = hall
    low, high, long, turned = pairings[k]
    if not turned or high >= low + long or (low == high and long == 1):
        return None
    s = low + high + long - 1
    m = len([x for x in range(low, n) if 2 * x < s])
    return (n, pairings[:k] + [(low, s + 1 - low - m, m, True)] + pairings[k + 1:], weighing), []


def joined(hall, j, k):
    n, pairings, weighing = hall
    if j >= k or not is_turn(pairings[j]) or not is_turn(pairings[k]):
        return None
    one, other = places_of(pairings[j]), places_of(pairings[k])
    shifts = [pairings[j][1] - pairings[j][0], pairings[k][1] - pairings[k][0]]
    if len(one & other) < sum(shifts):
        return None
    shift = max(d for d in range(1, n + 1) if shifts[0] % d == 0 and shifts[1] % d == 0)
    low, many = min(one | other), len(one | other)
    coming = (low, low + shift, many - shift, False)
    return (n, pairings[:j] + [coming] + pairings[j + 1:k] + pairings[k + 1:], weighing), []


def carried(hall, j, k, side):
    n, pairings, weighing = hall
    if j == k or not leads(pairings[j]):
        return None
    moved = stretch(pairings[k], side)
    if not set(moved) <= set(stretch(pairings[j], "high")):
        return None
    low, high, long, turned = pairings[k]
    begin = moved[0]
    if pairings[j][3]:
        begin = min(way_back(pairings[j])[place] for place in moved)
        turned = not turned
    else:
        while begin - (pairings[j][1] - pairings[j][0]) >= pairings[j][0]:
            begin -= pairings[j][1] - pairings[j][0]
    coming = ordered(begin, high if side == "low" else low, long, turned)
    return (n, pairings[:k] + [coming] + pairings[k + 1:], weighing), []


def cut(hall, j, end):
    n, pairings, weighing = hall
    if not leads(pairings[j]) or max(places_of(pairings[j])) != n - 1 or not pairings[j][1] <= end < n:
        return None
    if any(place >= end for k, pairing in enumerate(pairings) if k != j for place in places_of(pairing)):
        return None
    weights = spread(weighing)
    ways = way_back(pairings[j])
    for place in range(end, n):
        goal = place
        while goal >= end:
            goal = ways[goal]
        weights[goal] = together(weights[goal], weights[place])
    kept = [(place, goal) for place, goal in pairs(pairings[j]) if goal < end]
    left = []
    if kept:
        left = [(min(a for a, b in kept), min(b for a, b in kept), len(kept), pairings[j][3])]
    return (end, pairings[:j] + left + pairings[j + 1:], gathered(weights[:end])), []


def free(hall, end):
    n, pairings, weighing = hall
    if any(place >= end for pairing in pairings for place in places_of(pairing)):
        return None
    weights = spread(weighing)
    return (end, pairings, gathered(weights[:end])), tallied(weights[end:])


WALKS = {"gone": gone, "folded": folded, "joined": joined, "carried": carried, "cut": cut, "free": free}


def deed_walked(hall, deed):
    """What a deed, rightly formed, leads to, None where it is no deed of the hall."""
    word = deed[0]
    numbers = [thing for thing in deed[1:] if thing not in ("low", "high")]
    bounds = [len(hall[1])] * len(numbers)
    if word in ("cut", "free"):
        bounds[-1] = hall[0]
    if not all(whole(thing, bound) for thing, bound in zip(numbers, bounds)):
        return None
    return WALKS[word](hall, *deed[1:])


def formed_deeds(hall):
    """All rightly formed deeds with numbers in the hall and one beyond it at either end."""
    n, many = hall[0], len(hall[1])
    ks = range(-1, many + 1)
    ends = range(-1, n + 2)
    return (
        [("gone", k) for k in ks]
        + [("folded", k) for k in ks]
        + [("joined", j, k) for j in ks for k in ks]
        + [("carried", j, k, side) for j in ks for k in ks for side in ("low", "high")]
        + [("cut", j, end) for j in ks for end in ends]
        + [("free", end) for end in ends]
    )
