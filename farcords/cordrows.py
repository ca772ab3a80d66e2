"""Cord rows: how often cords cross each tie of a sheet."""

from farcords.errors import NoRow
from farcords.sheets import glued_sides, many_ties, points
from farcords.wholes import is_whole_from


def crossings(triangle, row):
    """The numbers of the three sides."""
    return [row[abs(side) - 1] for side in triangle]


def may_cross(numbers):
    """Tell whether arcs at three corners can make these numbers of the sides."""
    return sum(numbers) % 2 == 0 and 2 * max(numbers) <= sum(numbers)


def is_row(sheet, thing):
    """Tell whether a thing, of whatever kind and size, is a cord row of the sheet."""
    if not isinstance(thing, list) or len(thing) != many_ties(sheet):
        return False
    if not all([is_whole_from(many, 0) for many in thing]):
        return False
    return all([may_cross(crossings(triangle, thing)) for triangle in sheet])


def corner_arcs(triangle, row):
    """The arcs at the three corners."""
    first, second, third = crossings(triangle, row)
    half = (first + second + third) // 2
    # Half of the numbers are all arcs, and a side is crossed by all but those at the corner across from it.
    return (half - third, half - first, half - second)


def arcs(sheet, row):
    """The arcs at the corners, a tuple of three for each triangle."""
    return [corner_arcs(triangle, row) for triangle in sheet]


def are_three(thing):
    """Tell whether a thing is a tuple of three whole numbers from 0 on."""
    return isinstance(thing, tuple) and len(thing) == 3 and all([is_whole_from(many, 0) for many in thing])


def are_arcs(sheet, thing):
    """Tell whether a thing is a list of such tuples, one for each triangle."""
    return isinstance(thing, list) and len(thing) == len(sheet) and all([are_three(told) for told in thing])


def row_of(sheet, corners):
    """The cord row that has such arcs at the corners."""
    if not are_arcs(sheet, corners):
        raise NoRow("these are no arcs")
    row = []
    for both in glued_sides(sheet):
        # The corner ahead of a side is the one where it begins.
        one, other = [corners[at][place - 1] + corners[at][place] for at, place in both]
        if one != other:
            raise NoRow("the arcs at both sides of a tie don't come to the same")
        row.append(one)
    return row


def sum_of(sheet, one, other):
    """The sum of two cord rows, number by number."""
    return [one[at] + other[at] for at in range(many_ties(sheet))]


def ring(sheet, point):
    """The cord row that goes once round the point of that number."""
    row = [0] * many_ties(sheet)
    for tie, end in points(sheet)[point]:
        row[tie - 1] += 1
    return row
