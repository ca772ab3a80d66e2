"""Sheets: triangles glued along ties, their points, pieces, number and faces."""

from farcords.rooms import linked
from farcords.wholes import is_whole

MOST_TRIANGLES = 12


def is_triangle(thing):
    """Tell whether a thing is a tuple of three whole numbers."""
    return isinstance(thing, tuple) and len(thing) == 3 and all([is_whole(side) for side in thing])


def many_ties(sheet):
    """How many ties a sheet of so many triangles has."""
    return len(sheet) // 2 * 3


def is_sheet(thing):
    """Tell whether a thing, of whatever kind, is a sheet."""
    if not isinstance(thing, list) or not 2 <= len(thing) <= MOST_TRIANGLES or len(thing) % 2 == 1:
        return False
    if not all([is_triangle(triangle) for triangle in thing]):
        return False
    ties = sorted([abs(side) for triangle in thing for side in triangle])
    return ties == sorted(list(range(1, many_ties(thing) + 1)) * 2)


def corners_of(triangle):
    """For each corner the side that ends there and the one that begins there."""
    return list(zip(triangle, triangle[1:] + triangle[:1]))


def glued_sides(sheet):
    """For each tie a list of its two sides, each as (triangle, place of the side in it)."""
    glued = [[] for tie in range(many_ties(sheet))]
    for at, triangle in enumerate(sheet):
        for place, side in enumerate(triangle):
            glued[abs(side) - 1].append((at, place))
    return glued


def like_signs(sheet):
    """For each tie whether its two sides have like signs."""
    signs = [[sheet[at][place] > 0 for at, place in both] for both in glued_sides(sheet)]
    return [one == other for one, other in signs]


def begun_end(side):
    """The end of a tie at which the side begins, as one number: they go in the order of (tie, 0), (tie, 1)."""
    return 2 * abs(side) - (2 if side > 0 else 1)


def points(sheet):
    """The sets of ends that meet at corners, as sorted lists of tuples (tie, 0 or 1), sorted."""
    links = []
    for triangle in sheet:
        # A side ends where it would begin if it were gone along the other way.
        links.extend([(begun_end(-side), begun_end(following)) for side, following in corners_of(triangle)])
    found = linked(2 * many_ties(sheet), links)
    return [[(end // 2 + 1, end % 2) for end in ends] for ends in found]


def sheet_pieces(sheet):
    """The triangles that hang together, as rising lists, by their least ones."""
    return linked(len(sheet), [(one[0], other[0]) for one, other in glued_sides(sheet)])


def number(sheet):
    """How many points the sheet has, less the ties, and the triangles more."""
    return len(points(sheet)) - many_ties(sheet) + len(sheet)


def marked(n, links):
    """For each of n things 0 or 1, 0 for the first one of those that hang together; None where it can't be.

    Links are tuples (one, other, are_unlike): both things have unlike marks just where it says so.
    """
    # Each thing stands here with either mark; a thing that hangs together with itself otherwise marked has none.
    both = []
    for one, other, are_unlike in links:
        change = 1 if are_unlike else 0
        both.append((2 * one, 2 * other + change))
        both.append((2 * one + 1, 2 * other + 1 - change))
    marks = [0] * n
    for room in linked(2 * n, both):
        if len({place // 2 for place in room}) < len(room):
            return None
        if room[0] % 2 == 0:
            for place in room:
                marks[place // 2] = place % 2
    return marks


def faces(sheet):
    """For each triangle its face, 0 or 1, by which signs tell how ties are glued; None where there is none."""
    likes = like_signs(sheet)
    links = [(one[0], other[0], likes[at]) for at, (one, other) in enumerate(glued_sides(sheet))]
    return marked(len(sheet), links)
