"""Turned ties: a tie laid the other way across the two triangles beside it."""

from farcords.errors import NoTurn
from farcords.sheets import glued_sides, many_ties
from farcords.wholes import is_whole_from


def sides_round(sheet, tie):
    """Both triangles beside a tie that can be turned, and the four sides round them."""
    if not is_whole_from(tie, 1) or tie > many_ties(sheet):
        raise NoTurn("there is no such tie")
    (one, at), (other, by) = glued_sides(sheet)[tie - 1]
    if one == other:
        raise NoTurn("both sides of the tie are of one triangle")
    first, p, q = told_from(sheet[one], at)
    second, u, v = told_from(sheet[other], by)
    if first == second:
        # The other triangle lies the other way about, so it is gone round backward.
        u, v = -v, -u
    return (one, other, (p, q, u, v))


def told_from(triangle, at):
    """The triangle told from that side on."""
    return triangle[at:] + triangle[:at]


def turned_tie(sheet, tie):
    """The sheet with the tie turned."""
    one, other, (p, q, u, v) = sides_round(sheet, tie)
    turned = list(sheet)
    turned[one] = (q, u, -tie)
    turned[other] = (v, p, tie)
    return turned


def row_turned(sheet, row, tie):
    """The cord row behind the turn."""
    one, other, sides = sides_round(sheet, tie)
    p, q, u, v = [row[abs(side) - 1] for side in sides]
    turned = list(row)
    turned[tie - 1] = max(p + u, q + v) - row[tie - 1]
    return turned
