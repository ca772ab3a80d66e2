"""The promises walked place by place, for small things: what the program's answers are held against."""


def spread(weighing):
    """The weights of each place, one behind another."""
    return [weights for many, weights in weighing for time in range(many)]


def gathered(places):
    """The weighing of such a list."""
    runs = []
    for weights in places:
        if runs and runs[-1][1] == weights:
            runs[-1] = (runs[-1][0] + 1, weights)
        else:
            runs.append((1, weights))
    return runs


def together(one, other):
    """Two weights, number by number."""
    return tuple(a + b for a, b in zip(one, other))


def pairs(pairing):
    """The list of (place of the low stretch, its partner), as the document tells it."""
    low, high, long, turned = pairing
    if turned:
        return [(low + i, high + long - 1 - i) for i in range(long)]
    return [(low + i, high + i) for i in range(long)]


def pairing_of(led):
    """The pairing that has just the pairs told, which are of two stretches, or None of none."""
    if not led:
        return None
    low = min(place for place, goal in led)
    high = min(goal for place, goal in led)
    return (min(low, high), max(low, high), len(led))


def unordered(led):
    """The same pairs, whichever way they are led."""
    return sorted(tuple(sorted(pair)) for pair in led)


def small_pairings(places, longest):
    """All pairings of places below a number, no longer than told."""
    return [
        (low, high, long, turned)
        for low in range(places)
        for high in range(low, places)
        for long in range(1, min(longest, places - high) + 1)
        for turned in (False, True)
    ]


def small_weighings(places):
    """All weighings of so many places with weights (0, 0), (1, -2) and (-1, 2)."""
    kinds = [(0, 0), (1, -2), (-1, 2)]
    rows = [[]]
    for time in range(places):
        rows = [row + [kind] for row in rows for kind in kinds]
    return [gathered(row) for row in rows]


def rooms_of(n, pairings):
    """The rooms, by marking each place with the least place that it is led to until no mark changes."""
    marks = list(range(n))
    ways = [pair for pairing in pairings for pair in pairs(pairing)]
    changed = True
    while changed:
        changed = False
        for place, goal in ways:
            least = min(marks[place], marks[goal])
            if marks[place] != least or marks[goal] != least:
                marks[place] = marks[goal] = least
                changed = True
    return [[place for place in range(n) if marks[place] == mark] for mark in sorted(set(marks))]


def room_weights(hall):
    """What each room weighs, in the order of the rooms."""
    n, pairings, weighing = hall
    places = spread(weighing)
    return [tuple(sum(numbers) for numbers in zip(*[places[place] for place in room]))
            for room in rooms_of(n, pairings)]


def tallied(weights):
    """The sorts of a list of weights."""
    return sorted((kind, weights.count(kind)) for kind in set(weights))


def room_sorts(hall):
    """The sorts of a hall."""
    return tallied(room_weights(hall))


def together_sorts(lists):
    """Several lists of sorts as one."""
    manys = {}
    for sorts in lists:
        for weights, many in sorts:
            manys[weights] = manys.get(weights, 0) + many
    return sorted(manys.items())


def sorts_times(sorts, times):
    """The sorts of so many copies of the rooms."""
    return [(weights, many * times) for weights, many in sorts if times]


def plain_weighing(n):
    """A weighing by which rooms of unlike places are told apart: halves, quarters and all else."""
    cuts = sorted({0, n // 4, n // 2, n})
    kinds = [(1, 0, 0), (0, 1, 0), (0, 0, 1)]
    return [(end - begin, kind) for begin, end, kind in zip(cuts, cuts[1:], kinds)]


def binary_weighing(n):
    """Each place weighs a power of two of its own, so that what a room weighs tells its places."""
    return [(1, (2 ** place,)) for place in range(n)]
