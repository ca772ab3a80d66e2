"""Leavings: the pieces into which cords cut a sheet, told as the rooms of a hall of gaps."""

from farcords.cordrows import corner_arcs
from farcords.cords import corner_pairings, nearest
from farcords.counting import counted
from farcords.pairings import paired
from farcords.sheets import corners_of, points
from farcords.weighings import shaped, sum_of_weights

NOUGHTS = (0, 0)
POINT = (1, 0)
MIDDLE = (0, 1)


def gap_numbers(row):
    """How many gaps each tie has."""
    return [many + 1 for many in row]


def gap_behind(side, many, gaps):
    """The gap of the side that has so many crossings between itself and the side's begin."""
    # It is the farthest of the nearest many + 1; a side that goes against its tie has that one first.
    begin = nearest(side, many + 1, gaps)
    return begin + many if side > 0 else begin


def middle_gaps(triangle, row):
    """For the first two corners the gaps of both sides that lie right behind the arcs there."""
    gaps = gap_numbers(row)
    found = []
    for (side, following), many in list(zip(corners_of(triangle), corner_arcs(triangle, row)))[:2]:
        found.append((gap_behind(-side, many, gaps), gap_behind(following, many, gaps)))
    return found


def point_gap(end, row):
    """The gap of the tie at that end of it."""
    tie, is_last = end
    return gap_behind(-tie if is_last else tie, 0, gap_numbers(row))


def gap_weighing(sheet, row):
    """The weighing that tells of each gap how many points and how many middles count there."""
    heaps = {}
    counts = [(point_gap(ends[0], row), POINT) for ends in points(sheet)]
    counts.extend([(middle_gaps(triangle, row)[0][0], MIDDLE) for triangle in sheet])
    for gap, weights in counts:
        heaps[gap] = sum_of_weights(heaps.get(gap, NOUGHTS), weights)
    pieces = []
    behind = 0
    for gap in sorted(heaps):
        pieces.extend([(gap - behind, NOUGHTS), (1, heaps[gap])])
        behind = gap + 1
    pieces.append((sum(gap_numbers(row)) - behind, NOUGHTS))
    return shaped(pieces)


def gap_hall(sheet, row):
    """The hall of all gaps, led to one another between the arcs and by the middles of the triangles."""
    gaps = gap_numbers(row)
    pairings = []
    for triangle in sheet:
        pairings.extend(corner_pairings(triangle, row, gaps))
        pairings.extend([paired(one, other, 1, False) for one, other in middle_gaps(triangle, row)])
    return (sum(gaps), pairings, gap_weighing(sheet, row))


def left(sheet, row):
    """The sorted list of tuples (points, middles, how many pieces have so many)."""
    return [(many_points, middles, many) for (many_points, middles), many in counted(gap_hall(sheet, row))[1]]
