"""Halls: so many places, the pairings that lead between them, and what the places weigh."""

from farcords.pairings import end_of, is_pairing
from farcords.weighings import is_weighing, length
from farcords.wholes import is_whole_from


def are_pairings_below(thing, n):
    """Tell whether a thing is a list of pairings, all of whose places are below n."""
    if not isinstance(thing, list) or not all([is_pairing(pairing) for pairing in thing]):
        return False
    return all([end_of(pairing) <= n for pairing in thing])


def is_hall(thing):
    """Tell whether a thing, of whatever kind and size, is a hall."""
    if not isinstance(thing, tuple) or len(thing) != 3:
        return False
    n, pairings, weighing = thing
    if not is_whole_from(n, 0) or not are_pairings_below(pairings, n):
        return False
    return is_weighing(weighing) and length(weighing) == n
