"""Halls for the tests: all small ones of a kind, and others by a chance that is always the same."""

import random

from tests.walked import binary_weighing, gathered, plain_weighing, small_pairings


def small_halls(most_places):
    """All halls with places up to a number, up to two pairings, each place told apart by its weight."""
    halls = []
    for n in range(most_places + 1):
        single = [[pairing] for pairing in small_pairings(n, n)]
        both = [one + other for one in single for other in single]
        halls += [(n, pairings, binary_weighing(n)) for pairings in [[]] + single + both]
    return halls


def chance_pairing(chance, n):
    """A pairing of places below n; one with a short way between its stretches as often as any other."""
    long = chance.randint(1, n)
    high = chance.randint(0, n - long)
    low = chance.randint(0, high) if chance.random() < 0.5 else max(0, high - chance.randint(0, 3))
    return (low, high, long, chance.random() < 0.5)


def chance_weighing(chance, n, many):
    """A weighing of n places, with so many weights each, some of them below 0."""
    return gathered([tuple(chance.choice((-3, 0, 0, 1, 5)) for time in range(many)) for place in range(n)])


def chance_halls(seed, times, most_places, most_pairings):
    """So many halls, each time the same."""
    chance = random.Random(seed)
    halls = []
    for time in range(times):
        n = chance.randint(1, most_places)
        pairings = [chance_pairing(chance, n) for k in range(chance.randint(0, most_pairings))]
        halls.append((n, pairings, chance_weighing(chance, n, chance.randint(1, 3))))
    return halls


def far_halls(seed, times, figures, many):
    """So many halls of so many figures, with so many pairings each, each time the same."""
    chance = random.Random(seed)
    halls = []
    for time in range(times):
        n = chance.randint(10 ** (figures - 1), 10 ** figures - 1)
        halls.append((n, [far_pairing(chance, n) for k in range(many)], plain_weighing(n)))
    return halls


def far_pairing(chance, n):
    """A pairing of places below n, long or short ones alike often."""
    long = chance.randint(1, n // chance.choice((1, 2, 3, 7, 10 ** 9)))
    high = chance.randint(0, n - long)
    low = chance.randint(0, high)
    return (low, high, long, chance.random() < 0.3)


def exchange(lengths, order):
    """The hall of the stretches of such lengths, laid side by side, each paired with itself in another order."""
    begins, ends = {}, {}
    at = 0
    for k, long in enumerate(lengths):
        begins[k] = at
        at += long
    at = 0
    for k in order:
        ends[k] = at
        at += lengths[k]
    pairings = [(min(begins[k], ends[k]), max(begins[k], ends[k]), lengths[k], False) for k in order]
    return (at, pairings, plain_weighing(at))


def times_each(hall, times):
    """The hall in whose place of each place stand so many."""
    n, pairings, weighing = hall
    return (
        n * times,
        [(low * times, high * times, long * times, turned) for low, high, long, turned in pairings],
        [(many * times, weights) for many, weights in weighing],
    )
