"""Papers of halls and of cord rows, and the looker that does their deeds again."""

from farcords.cordrows import is_row
from farcords.cords import cords_of, hall_of
from farcords.counting import done, emptied
from farcords.errors import NoDeed
from farcords.halls import is_hall
from farcords.sheets import is_sheet
from farcords.wholes import is_whole


def room_paper(hall):
    """The paper of a hall, by the deeds that the program finds."""
    n, pairings, weighing = hall
    deeds = emptied(hall)
    rest, many, told = done(hall, deeds)
    return ("rooms", (n, list(pairings), list(weighing)), deeds, many, told)


def cord_paper(sheet, row):
    """The paper of a cord row, by the deeds that the program finds."""
    hall = hall_of(sheet, row)
    deeds = emptied(hall)
    return ("cords", list(sheet), list(row), deeds, cords_of(done(hall, deeds)[2]))


def is_just(thing, wanted):
    """Tell whether a thing is what is wanted, its kinds too, wanted being whole numbers, lists and tuples of such."""
    if is_whole(wanted):
        return is_whole(thing) and thing == wanted
    if isinstance(thing, list) != isinstance(wanted, list) or isinstance(thing, tuple) != isinstance(wanted, tuple):
        return False
    return len(thing) == len(wanted) and all([is_just(one, other) for one, other in zip(thing, wanted)])


def told_by(hall, deeds):
    """The number and the sorts of the rooms that the deeds count, None where they don't empty the hall."""
    try:
        rest, many, told = done(hall, deeds)
    except NoDeed:
        return None
    return (many, told) if rest[0] == 0 else None


def holds_rooms(hall, deeds, many, told):
    """Tell whether the deeds empty the hall and count just these rooms."""
    if not is_hall(hall) or not isinstance(deeds, list):
        return False
    found = told_by(hall, deeds)
    return found is not None and is_just((many, told), found)


def holds_cords(sheet, row, deeds, told):
    """Tell whether the deeds empty the hall of the row and count just these cords."""
    if not is_sheet(sheet) or not is_row(sheet, row) or not isinstance(deeds, list):
        return False
    found = told_by(hall_of(sheet, row), deeds)
    return found is not None and is_just(told, cords_of(found[1]))


def holds(paper):
    """Tell whether a thing, of whatever kind, is a paper that holds."""
    if not isinstance(paper, tuple) or len(paper) != 5:
        return False
    word, first, second, third, fourth = paper
    if word == "rooms":
        return holds_rooms(first, second, third, fourth)
    return word == "cords" and holds_cords(first, second, third, fourth)
