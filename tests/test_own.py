"""Point 2, of every function: what is handed in stays, what is told is the asker's own."""

import copy
import unittest

from farcords import (
    cordrows, cords, counting, deeds, halls, leavings, looker, pairings, rooms, sheets, texts, ties, weighings,
)
from tests.sheets_made import BENT, KLEIN, PROJECTIVE, SPHERE, TORUS, TWO_PIECES

ONE = [(2, (1, -4)), (3, (0, 5)), (1, (1, -4))]
OTHER = [(1, (7, 7)), (5, (0, 0))]
SMALL = [(2, (3, 3))]
HALL = (6, [(0, 0, 3, False), (1, 1, 3, True), (0, 2, 4, False), (0, 1, 4, False), (2, 3, 1, True)], ONE)
TOP = (6, [(0, 0, 2, True), (0, 3, 3, True)], ONE)
TURN = (6, [(0, 2, 4, False)], ONE)
OPEN = (6, [(0, 1, 2, True)], ONE)
ALONE = (6, [], ONE)
NONE = (0, [], [])

# What is no list is told of here too: what was handed in stays as it was, and truths are truths.
CALLS = [
    (weighings.is_weighing, [ONE]),
    (weighings.is_weighing, [[]]),
    (weighings.is_weighing, [[[1, [2]], (1, (2,))]]),
    (weighings.is_weighing, [[(1, [2])]]),
    (weighings.is_weighing, [None]),
    (weighings.shaped, [[(0, (1,)), (2, (1,)), (3, (1,)), (1, (2,))]]),
    (weighings.shaped, [ONE]),
    (weighings.shaped, [[]]),
    (weighings.length, [ONE]),
    (weighings.weights_at, [ONE, 4]),
    (weighings.part, [ONE, 1, 5]),
    (weighings.part, [ONE, 0, 6]),
    (weighings.part, [ONE, 3, 3]),
    (weighings.backward, [ONE]),
    (weighings.backward, [SMALL]),
    (weighings.backward, [[]]),
    (weighings.added, [ONE, OTHER]),
    (weighings.added, [ONE, ONE]),
    (weighings.added, [[], []]),
    (weighings.put_to, [ONE, 3, SMALL]),
    (weighings.put_to, [ONE, 0, []]),
    (weighings.put_to, [[], 0, []]),
    (weighings.wound, [ONE, 1]),
    (weighings.wound, [ONE, 4]),
    (weighings.wound, [ONE, 6]),
    (weighings.wound, [ONE, 60]),
    (weighings.sorts, [ONE]),
    (weighings.sorts, [[]]),
    (pairings.is_pairing, [(0, 3, 2, True)]),
    (pairings.is_pairing, [[0, 3, 2, True]]),
    (pairings.is_pairing, [([0], 3, 2, True)]),
    (pairings.paired, [3, 0, 2, True]),
    (pairings.forth, [(0, 3, 2, True), 1]),
    (pairings.back, [(0, 3, 2, True), 4]),
    (pairings.partners, [(0, 3, 5, False), 3]),
    (pairings.partners, [(0, 3, 5, False), 30]),
    (pairings.short, [(0, 3, 5, True), 1, 2]),
    (pairings.behind, [(0, 3, 5, True), (2, 3, 5, False)]),
    (pairings.is_turn, [(0, 3, 5, False)]),
    (pairings.is_turn, [(0, 3, 5, True)]),
    (halls.is_hall, [HALL]),
    (halls.is_hall, [NONE]),
    (halls.is_hall, [(6, [[0, 0, 2, True]], ONE)]),
    (halls.is_hall, [[6, [], ONE]]),
    (halls.is_hall, [None]),
    (rooms.rooms, [HALL]),
    (rooms.rooms, [ALONE]),
    (rooms.rooms, [NONE]),
    (rooms.sorts_walked, [TOP]),
    (rooms.sorts_walked, [ALONE]),
    (rooms.sorts_walked, [NONE]),
    (deeds.deed_done, [HALL, ("gone", 0)]),
    (deeds.deed_done, [HALL, ("folded", 1)]),
    (deeds.deed_done, [HALL, ("joined", 2, 3)]),
    (deeds.deed_done, [HALL, ("carried", 2, 4, "high")]),
    (deeds.deed_done, [TOP, ("cut", 1, 4)]),
    (deeds.deed_done, [TOP, ("cut", 1, 3)]),
    (deeds.deed_done, [TURN, ("cut", 0, 3)]),
    (deeds.deed_done, [OPEN, ("free", 4)]),
    (deeds.deed_done, [ALONE, ("free", 0)]),
    (counting.emptied, [HALL]),
    (counting.emptied, [OPEN]),
    (counting.emptied, [ALONE]),
    (counting.emptied, [NONE]),
    (counting.counted, [HALL]),
    (counting.counted, [TOP]),
    (counting.counted, [TURN]),
    (counting.counted, [ALONE]),
    (counting.counted, [NONE]),
    (sheets.is_sheet, [SPHERE]),
    (sheets.is_sheet, [[[1, 2, 3], (1, 2, 3)]]),
    (sheets.is_sheet, [None]),
    (sheets.points, [SPHERE]),
    (sheets.points, [TORUS]),
    (sheets.sheet_pieces, [TWO_PIECES]),
    (sheets.number, [PROJECTIVE]),
    (sheets.faces, [TWO_PIECES]),
    (sheets.faces, [KLEIN]),
    (cordrows.is_row, [SPHERE, [1, 1, 2]]),
    (cordrows.is_row, [SPHERE, [1, 1, [2]]]),
    (cordrows.is_row, [SPHERE, SPHERE]),
    (cordrows.arcs, [SPHERE, [1, 1, 2]]),
    (cordrows.row_of, [SPHERE, [(0, 1, 1), (1, 0, 1)]]),
    (cordrows.sum_of, [SPHERE, [1, 1, 2], [0, 0, 0]]),
    (cordrows.ring, [SPHERE, 1]),
    (cords.hall_of, [SPHERE, [1, 1, 2]]),
    (cords.hall_of, [SPHERE, [0, 0, 0]]),
    (cords.cords, [SPHERE, [1, 1, 2]]),
    (cords.cords, [PROJECTIVE, [3, 0, 3]]),
    (cords.cords, [TORUS, [0, 0, 0]]),
    (cords.is_single, [TORUS, [1, 1, 2]]),
    (cords.is_single, [TORUS, [0, 0, 0]]),
    (cords.has_one_side, [PROJECTIVE, [1, 0, 1]]),
    (cords.does_part, [SPHERE, [1, 1, 0]]),
    (ties.turned_tie, [TORUS, 2]),
    (ties.turned_tie, [BENT, 2]),
    (ties.row_turned, [TORUS, [1, 1, 2], 2]),
    (leavings.gap_hall, [SPHERE, [1, 1, 2]]),
    (leavings.gap_hall, [SPHERE, [0, 0, 0]]),
    (leavings.left, [TORUS, [4, 6, 10]]),
    (looker.room_paper, [HALL]),
    (looker.room_paper, [ALONE]),
    (looker.room_paper, [NONE]),
    (looker.cord_paper, [SPHERE, [1, 1, 2]]),
    (looker.cord_paper, [TORUS, [0, 0, 0]]),
    (looker.holds, [looker.room_paper(HALL)]),
    (looker.holds, [looker.cord_paper(SPHERE, [1, 1, 2])]),
    (looker.holds, [("rooms", HALL, [("free", 0)], 6, [])]),
    (looker.holds, [[HALL, [HALL]]]),
    (texts.show_sheet, [SPHERE]),
    (texts.show_row, [[1, 1, 2]]),
    (texts.show_cords, [[([1, 1, 2], 3), ([0, 0, 0], 1)]]),
    (texts.show_left, [[(1, 0, 2), (1, 2, 1)]]),
    (texts.read_sheet, ["1 2 3 / -1 -2 -3"]),
    (texts.read_row, [SPHERE, "1 1 2"]),
]

TRUTHS = (
    weighings.is_weighing, pairings.is_pairing, pairings.is_turn, halls.is_hall, sheets.is_sheet, cordrows.is_row,
    cords.is_single, cords.has_one_side, cords.does_part, looker.holds,
)


def spoil(thing):
    """Change all lists in what is the asker's own."""
    if isinstance(thing, (list, tuple)):
        for within in thing:
            spoil(within)
    if isinstance(thing, list):
        thing.reverse()
        thing.append("spoilt")
        del thing[:1]


def lists_of(thing):
    """All lists within a thing, itself too."""
    found = [thing] if isinstance(thing, list) else []
    if isinstance(thing, (list, tuple)):
        for within in thing:
            found += lists_of(within)
    return found


class OwnTest(unittest.TestCase):
    # Things are compared by how they are shown, as 1 == True and that would hide a wrong kind.

    def test_what_is_handed_in_stays(self):
        for function, handed in CALLS:
            with self.subTest(function=function.__name__, handed=handed):
                given = copy.deepcopy(handed)
                function(*given)
                self.assertEqual(repr(given), repr(handed))

    def test_told_again_as_it_was_when_the_asker_changed_it(self):
        for function, handed in CALLS:
            with self.subTest(function=function.__name__, handed=handed):
                given = copy.deepcopy(handed)
                first = function(*given)
                shown = repr(first)
                spoil(first)
                self.assertEqual(repr(given), repr(handed))
                self.assertEqual(repr(function(*given)), shown)

    def test_told_stays_when_what_was_handed_in_is_changed(self):
        for function, handed in CALLS:
            with self.subTest(function=function.__name__, handed=handed):
                given = copy.deepcopy(handed)
                told = function(*given)
                shown = repr(told)
                spoil(given)
                self.assertEqual(repr(told), shown)
                self.assertEqual(repr(function(*copy.deepcopy(handed))), shown)

    def test_lists_are_new(self):
        for function, handed in CALLS:
            with self.subTest(function=function.__name__, handed=handed):
                given = copy.deepcopy(handed)
                lists = lists_of(function(*given))
                told = {id(xs) for xs in lists}
                self.assertEqual(len(told), len(lists))
                self.assertFalse(told & {id(xs) for xs in lists_of(given)})

    def test_truths_are_truths_and_numbers_are_numbers(self):
        for function, handed in CALLS:
            with self.subTest(function=function.__name__, handed=handed):
                told = function(*copy.deepcopy(handed))
                self.assertEqual(isinstance(told, bool), function in TRUTHS)

    def test_every_function_is_asked(self):
        names = {function.__name__ for function, handed in CALLS}
        self.assertEqual(names, {
            "is_weighing", "shaped", "length", "weights_at", "part", "backward", "added", "put_to", "wound", "sorts",
            "is_pairing", "paired", "forth", "back", "partners", "short", "behind", "is_turn",
            "is_hall", "rooms", "sorts_walked", "deed_done", "emptied", "counted",
            "is_sheet", "points", "sheet_pieces", "number", "faces", "is_row", "arcs", "row_of", "sum_of", "ring",
            "hall_of", "cords", "is_single", "has_one_side", "does_part", "turned_tie", "row_turned",
            "gap_hall", "left", "room_paper", "cord_paper", "holds",
            "show_sheet", "show_row", "show_cords", "show_left", "read_sheet", "read_row",
        })


if __name__ == "__main__":
    unittest.main()
