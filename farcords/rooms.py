"""Rooms of small halls, walked from place to place."""

from farcords.errors import TooMany
from farcords.pairings import forth
from farcords.weighings import sorts, sum_of_weights

MOST_PLACES = 2000


def beside_each(n, links):
    """For each place below n the places that it is linked with."""
    beside = [[] for place in range(n)]
    for one, other in links:
        beside[one].append(other)
        beside[other].append(one)
    return beside


def room_from(start, beside, is_seen):
    """The rising list of all places to which the start is led, marked as seen."""
    is_seen[start] = True
    room = [start]
    ahead = [start]
    while ahead:
        place = ahead.pop()
        for goal in beside[place]:
            if not is_seen[goal]:
                is_seen[goal] = True
                room.append(goal)
                ahead.append(goal)
    return sorted(room)


def linked(n, links):
    """The places below n that links (one, other) hold together, as rising lists, by their least places."""
    beside = beside_each(n, links)
    is_seen = [False] * n
    found = []
    for place in range(n):
        if not is_seen[place]:
            found.append(room_from(place, beside, is_seen))
    return found


def links_of(pairing):
    """The pairs of a pairing, one by one."""
    return [(place, forth(pairing, place)) for place in range(pairing[0], pairing[0] + pairing[2])]


def rooms(hall):
    """The rooms as rising lists of places, by their least ones."""
    n, pairings, weighing = hall
    if n > MOST_PLACES:
        raise TooMany("the hall has more places than are walked")
    return linked(n, [link for pairing in pairings for link in links_of(pairing)])


def weights_of(room, places):
    """The sum of the weights of a room's places."""
    weights = places[room[0]]
    for place in room[1:]:
        weights = sum_of_weights(weights, places[place])
    return weights


def sorts_walked(hall):
    """The sorted list of tuples (weights, how many rooms weigh so)."""
    found = rooms(hall)
    places = []
    for many, weights in hall[2]:
        places.extend([weights] * many)
    return sorts([(1, weights_of(room, places)) for room in found])
