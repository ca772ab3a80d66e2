"""Cords: the closed cords of a cord row, told as the rooms of a hall."""

from farcords.cordrows import corner_arcs, is_row
from farcords.counting import counted
from farcords.errors import NoCord
from farcords.pairings import paired
from farcords.sheets import corners_of, like_signs, marked, points
from farcords.weighings import shaped


def begins_of(lengths):
    """Where each of the stretches begins, laid one behind another from place 0 on."""
    begins = []
    begin = 0
    for long in lengths:
        begins.append(begin)
        begin += long
    return begins


def nearest(side, many, lengths):
    """Where so many places of the side begin that are nearest to its begin, ties having such lengths."""
    at = abs(side) - 1
    begin = begins_of(lengths)[at]
    return begin if side > 0 else begin + lengths[at] - many


def corner_pairings(triangle, row, lengths):
    """For each corner with arcs the pairing of as many places of both sides, the nearest with the nearest."""
    found = []
    for (side, following), many in zip(corners_of(triangle), corner_arcs(triangle, row)):
        if many > 0:
            is_turned = (side > 0) == (following > 0)
            found.append(paired(nearest(-side, many, lengths), nearest(following, many, lengths), many, is_turned))
    return found


def unit_weights(at, many):
    """So many weights, 1 at one place and else 0."""
    return tuple([1 if place == at else 0 for place in range(many)])


def hall_of(sheet, row):
    """The hall of all crossings, led to one another along the arcs."""
    pairings = [pairing for triangle in sheet for pairing in corner_pairings(triangle, row, row)]
    weighing = shaped([(many, unit_weights(at, len(row))) for at, many in enumerate(row)])
    return (sum(row), pairings, weighing)


def cords_of(told):
    """The cords that the sorts of a row's hall tell of."""
    return [(list(weights), copies) for weights, copies in told]


def cords(sheet, row):
    """The sorted list of tuples (row of a cord, how many copies of it there are)."""
    return cords_of(counted(hall_of(sheet, row))[1])


def is_single(sheet, row):
    """Tell whether the row is that of one cord."""
    return is_row(sheet, row) and counted(hall_of(sheet, row))[0] == 1


def demand_single(sheet, row):
    """Refuse a row that is not that of one cord."""
    if not is_single(sheet, row):
        raise NoCord("the row is no single cord")


def has_one_side(sheet, row):
    """Tell whether a single cord has one side."""
    demand_single(sheet, row)
    # Where a tie's sides have like signs, a cord comes over it the other way about.
    return sum([many for many, is_like in zip(row, like_signs(sheet)) if is_like]) % 2 == 1


def does_part(sheet, row):
    """Tell whether the sheet has a piece more, cut along a single cord."""
    demand_single(sheet, row)
    # It does just where each point can be told to lie on one of two shores: along a tie each crossing leads to
    # the other shore.
    found = points(sheet)
    point_at = {end: at for at, ends in enumerate(found) for end in ends}
    links = [(point_at[(at + 1, 0)], point_at[(at + 1, 1)], many % 2 == 1) for at, many in enumerate(row)]
    return marked(len(found), links) is not None
