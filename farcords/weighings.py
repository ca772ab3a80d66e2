"""Weighings: the weights of places, told in runs of alike ones, however long."""

from farcords.wholes import is_whole, is_whole_from

MOST_WEIGHTS = 24


def is_weights(thing):
    """Tell whether a thing is the weights of a place."""
    if not isinstance(thing, tuple) or not 1 <= len(thing) <= MOST_WEIGHTS:
        return False
    return all([is_whole(weight) for weight in thing])


def is_run(thing):
    """Tell whether a thing is a tuple (many, weights) that may stand in a weighing."""
    if not isinstance(thing, tuple) or len(thing) != 2:
        return False
    many, weights = thing
    return is_whole_from(many, 1) and is_weights(weights)


def may_follow(one, other):
    """Tell whether two runs may stand side by side in a weighing."""
    return len(one[1]) == len(other[1]) and one[1] != other[1]


def is_weighing(thing):
    """Tell whether a thing, of whatever kind and size, is a weighing."""
    if not isinstance(thing, list) or not all([is_run(run) for run in thing]):
        return False
    return all([may_follow(one, other) for one, other in zip(thing, thing[1:])])


def shaped(pieces):
    """The weighing that tells the same as the pieces."""
    runs = []
    for many, weights in pieces:
        if many == 0:
            continue
        if runs and runs[-1][1] == weights:
            runs[-1] = (runs[-1][0] + many, weights)
        else:
            runs.append((many, weights))
    return runs


def length(weighing):
    """How many places the weighing tells of."""
    return sum([many for many, weights in weighing])


def weights_at(weighing, place):
    """The weights of the place."""
    at = 0
    while place >= weighing[at][0]:
        place -= weighing[at][0]
        at += 1
    return weighing[at][1]


def laid_from(weighing, begin):
    """The runs as stretches (begin, end, weights), place 0 laid at the begin."""
    stretches = []
    for many, weights in weighing:
        stretches.append((begin, begin + many, weights))
        begin += many
    return stretches


def part(weighing, begin, end):
    """The weighing of the places from the begin on and ahead of the end."""
    pieces = []
    for low, high, weights in laid_from(weighing, 0):
        if low < end and begin < high:
            pieces.append((min(high, end) - max(low, begin), weights))
    return shaped(pieces)


def backward(weighing):
    """The weighing whose first place is the last one of this."""
    return weighing[::-1]


def sum_of_weights(one, other):
    """The weights of both together, number by number."""
    return tuple([weight + more for weight, more in zip(one, other)])


def weights_times(weights, times):
    """The weights taken so many times."""
    return tuple([weight * times for weight in weights])


def rises_of(stretches):
    """By each place where a stretch begins or ends, how much the weights rise there."""
    rises = {}
    for begin, end, weights in stretches:
        noughts = weights_times(weights, 0)
        fall = weights_times(weights, -1)
        rises[begin] = sum_of_weights(rises.get(begin, noughts), weights)
        rises[end] = sum_of_weights(rises.get(end, noughts), fall)
    return rises


def heaped(stretches):
    """The weighing that has at each place the sum of the stretches that hold it.

    The stretches begin at place 0 and leave no gap between them.
    """
    if not stretches:
        return []
    rises = rises_of(stretches)
    cuts = sorted(rises.keys())
    weights = weights_times(stretches[0][2], 0)
    pieces = []
    for begin, end in zip(cuts, cuts[1:]):
        weights = sum_of_weights(weights, rises[begin])
        pieces.append((end - begin, weights))
    return shaped(pieces)


def added(one, other):
    """The sum of two weighings of one length, place by place."""
    stretches = laid_from(one, 0)
    others = laid_from(other, 0)
    pieces = []
    begin = at = by = 0
    while at < len(stretches):
        end = min(stretches[at][1], others[by][1])
        pieces.append((end - begin, sum_of_weights(stretches[at][2], others[by][2])))
        begin = end
        if stretches[at][1] == end:
            at += 1
        if others[by][1] == end:
            by += 1
    return shaped(pieces)


def put_to(weighing, begin, other):
    """The weighing, with the other one's weights added from the begin on."""
    end = begin + length(other)
    between = added(part(weighing, begin, end), other)
    return shaped(part(weighing, 0, begin) + between + part(weighing, end, length(weighing)))


def wound(weighing, t):
    """The weighing of t places round which this one is wound."""
    stretches = []
    for low, high, weights in laid_from(weighing, 0):
        # A run goes round whole so often; what is left of it may lie over the end, and goes on at 0.
        rounds, left = divmod(high - low, t)
        begin = low % t
        stretches.append((0, t, weights_times(weights, rounds)))
        stretches.append((begin, min(begin + left, t), weights))
        stretches.append((0, max(begin + left - t, 0), weights))
    return heaped(stretches)


def sorts(weighing):
    """The sorted list of tuples (weights, how many places have them)."""
    manys = {}
    for many, weights in weighing:
        manys[weights] = manys.get(weights, 0) + many
    return sorted(manys.items())
