"""Counting: halls are emptied by deeds, and their rooms are told of them."""

from farcords.deeds import deed_done, may_carry, may_fold, may_go, may_join
from farcords.pairings import end_of, is_turn
from farcords.weighings import length, shaped, sorts


class Emptying:
    """A hall on its way to no places, and the deeds that led it there."""

    def __init__(self, hall):
        n, pairings, weighing = hall
        # No deed hangs on what the places weigh, so here they all weigh nothing.
        self.hall = (n, pairings, shaped([(n, (0,))]))
        self.deeds = []

    def do(self, deed):
        """Lead the hall by the deed."""
        self.hall, counted_there = deed_done(self.hall, deed)
        self.deeds.append(deed)


def fold_all(emptying):
    """Fold the pairings, and let them go, where they can."""
    k = 0
    while k < len(emptying.hall[1]):
        pairing = emptying.hall[1][k]
        if may_fold(pairing):
            emptying.do(("folded", k))
        elif may_go(pairing):
            emptying.do(("gone", k))
        else:
            k += 1


def turns_to_join(pairings):
    """The numbers of two turns that can be joined, None where there are none."""
    turns = [k for k, pairing in enumerate(pairings) if is_turn(pairing)]
    for at, j in enumerate(turns):
        for k in turns[at + 1:]:
            if may_join(pairings[j], pairings[k]):
                return (j, k)
    return None


def join_all(emptying):
    """Join turns where they can."""
    both = turns_to_join(emptying.hall[1])
    while both is not None:
        emptying.do(("joined", both[0], both[1]))
        both = turns_to_join(emptying.hall[1])


def leader_of(n, pairings):
    """The number of the pairing with the lowest high among those that end with the last place."""
    return min([(pairing[1], k) for k, pairing in enumerate(pairings) if end_of(pairing) == n])[1]


def carry_all(emptying, j):
    """Carry all stretches within the high stretch of the pairing j, of each pairing the high one first."""
    for k in range(len(emptying.hall[1])):
        # A carried stretch begins below the high stretch, so the high one is another one then.
        while k != j and may_carry(emptying.hall[1][j], emptying.hall[1][k], "high"):
            emptying.do(("carried", j, k, "high"))


def cut_last(emptying):
    """Cut off the last places, that only one pairing has when all others are carried."""
    n, pairings, weighing = emptying.hall
    j = leader_of(n, pairings)
    carry_all(emptying, j)
    pairings = emptying.hall[1]
    ends = [end_of(pairing) for k, pairing in enumerate(pairings) if k != j]
    emptying.do(("cut", j, max([pairings[j][1]] + ends)))


def lessen(emptying):
    """Take places away from the hall, one at least."""
    fold_all(emptying)
    join_all(emptying)
    n, pairings, weighing = emptying.hall
    end = max([end_of(pairing) for pairing in pairings], default=0)
    if end < n:
        emptying.do(("free", end))
    else:
        cut_last(emptying)


def emptied(hall):
    """A list of deeds by which the hall is emptied."""
    emptying = Emptying(hall)
    while emptying.hall[0] > 0:
        lessen(emptying)
    return emptying.deeds


def done(hall, deeds):
    """The hall behind the deeds, one behind another, and of the rooms that they count the number and the sorts."""
    runs = []
    for deed in deeds:
        hall, told = deed_done(hall, deed)
        runs.extend([(many, weights) for weights, many in told])
    return (hall, length(runs), sorts(runs))


def counted(hall):
    """The number of rooms, and the sorted list of tuples (weights, how many rooms weigh so)."""
    return done(hall, emptied(hall))[1:]
