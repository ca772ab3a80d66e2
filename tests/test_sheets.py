"""Sheets: points 10, 11 and 12."""

import itertools
import random
import unittest

from farcords.sheets import faces, is_sheet, number, points, sheet_pieces
from tests.bending import ANY_THINGS, bent
from tests.cords_walked import held_together, points_walked
from tests.sheets_made import (
    BENT, FOLDED, KLEIN, MIXED_PIECES, NAMED, PROJECTIVE, SPHERE, TORUS, TWO_PIECES, chance_sheet, chance_sheets,
    sheet_of, sheets_of_two, upside_down,
)

BIG = 10 ** 61


def faces_tried(sheet):
    """All lists of faces that do what point 12 asks, each list of 0 and 1 tried."""
    sides = [(abs(side), side > 0, at) for at, triangle in enumerate(sheet) for side in triangle]
    glued = [(one, other) for one, other in itertools.combinations(sides, 2) if one[0] == other[0]]
    firsts = [piece[0] for piece in sheet_pieces(sheet)]
    return [
        list(marks) for marks in itertools.product((0, 1), repeat=len(sheet))
        if all(marks[at] == 0 for at in firsts)
        and all((one[1] != other[1]) == (marks[one[2]] == marks[other[2]]) for one, other in glued)
    ]


def pieces_tried(sheet):
    """The triangles that hang together."""
    links = [(at, by) for at, one in enumerate(sheet) for by, other in enumerate(sheet)
             if {abs(side) for side in one} & {abs(side) for side in other}]
    return sorted(sorted(piece) for piece in held_together(range(len(sheet)), links))


class IsSheetTest(unittest.TestCase):
    def well(self, thing):
        self.assertIs(is_sheet(thing), True, repr(thing))

    def none(self, thing):
        self.assertIs(is_sheet(thing), False, repr(thing))

    def test_sheets(self):
        for sheet in NAMED + sheets_of_two() + chance_sheets(1, 20):
            self.well(sheet)

    def test_how_many_triangles(self):
        chance = random.Random(2)
        for many in range(0, 30):
            sheet = sheet_of([side for tie in range(1, many * 3 // 2 + 1) for side in (tie, -tie)])
            self.assertIs(is_sheet(sheet), many in (2, 4, 6, 8, 10, 12), many)
        for many in (2, 4, 6, 8, 10, 12):
            sheet = chance_sheet(chance, many)
            for at in range(many):
                self.none(sheet[:at] + sheet[at + 1:])
                self.none(sheet + [sheet[at]])
        self.none([])
        self.none(chance_sheet(chance, 14))

    def test_an_odd_number_of_triangles(self):
        # Each tie is a side twice here, and still three and five are no even number.
        self.none([(1, 1, 2), (2, 3, 3), (4, 4, 0)])
        self.none([(1, 1, 2), (2, 3, 3), (4, -4, 5)])
        self.none([(1, 2, 3)])
        self.none([(1, 2, 3), (1, 2, 3), (4, 4, 5)])

    def test_each_tie_is_a_side_just_twice(self):
        self.none([(1, 2, 3), (-1, -2, 4)])
        self.none([(1, 2, 3), (1, 1, 2)])
        self.none([(1, 1, 1), (1, 2, 3)])
        self.none([(1, 2, 3), (1, -1, 3)])
        self.none([(1, 2, 2), (-2, 3, 3)])
        self.none([(1, 1, 2), (2, 2, 2)])
        self.well([(1, 1, 2), (2, 3, 3)])
        self.well([(1, -1, 2), (-2, 3, -3)])
        for sides in itertools.product((-3, -2, -1, 1, 2, 3), repeat=4):
            twice = all([abs(side) for side in sides + (1, 2)].count(tie) == 2 for tie in (1, 2, 3))
            self.assertIs(is_sheet(sheet_of(sides + (1, 2))), twice, sides)

    def test_ties_are_numbered_from_one_on(self):
        self.none([(0, 1, 2), (0, -1, -2)])
        self.none([(1, 2, 4), (-1, -2, -4)])
        self.none([(4, 5, 6), (4, 5, 6)])
        self.none([(1, 2, BIG), (-1, -2, -BIG)])
        self.none([(1, 2, 3), (1, 2, 3), (4, 5, 7), (4, 5, 7)])

    def test_triangles_have_three_sides(self):
        self.none([(1, 2), (2, 3), (3, 1)])
        self.none([(1, 2, 3, 3), (1, 2)])
        self.none([(1, 1, 2, 2, 3, 3), ()])
        self.none([(1, 2, 3), (1, 2, 3, 3)])
        self.none([(), ()])

    def test_wrong_kinds(self):
        for thing in ANY_THINGS + bent(SPHERE) + bent(KLEIN) + bent(MIXED_PIECES):
            self.none(thing)
        self.none([(True, 2, 3), (1, 2, 3)])
        self.none([(1, 2, 3), (True, 2, 3)])
        self.none([(1, 2, 3), [1, 2, 3]])
        self.none([(1, 2, 3), (1, 2, "3")])
        self.none([(1, 2, 3), (1, 2, [3])])
        self.none([(1, 2, 3), (1, 2, None)])
        self.none(((1, 2, 3), (1, 2, 3)))
        self.none([(1, 2, 3), (1, 2, 3), None])
        self.none("1 2 3 / 1 2 3")


class PointsTest(unittest.TestCase):
    def test_by_hand(self):
        self.assertEqual(points(SPHERE), [[(1, 0), (3, 1)], [(1, 1), (2, 0)], [(2, 1), (3, 0)]])
        self.assertEqual(points(TORUS), [[(1, 0), (1, 1), (2, 0), (2, 1), (3, 0), (3, 1)]])
        self.assertEqual(points(PROJECTIVE), [[(1, 0), (2, 1), (3, 0), (3, 1)], [(1, 1), (2, 0)]])
        self.assertEqual(points(FOLDED), [[(1, 0), (2, 0), (2, 1), (3, 0)], [(1, 1)], [(3, 1)]])
        self.assertEqual(len(points(TWO_PIECES)), 2)

    def test_kinds(self):
        self.assertEqual(repr(points(SPHERE)[0]), "[(1, 0), (3, 1)]")
        self.assertIs(type(points(SPHERE)), list)

    def test_against_ends_put_together(self):
        for sheet in NAMED + sheets_of_two() + chance_sheets(11, 20):
            self.assertEqual(points(sheet), points_walked(sheet), sheet)

    def test_each_end_once(self):
        for sheet in chance_sheets(12, 20):
            ends = sorted(end for point in points(sheet) for end in point)
            self.assertEqual(ends, [(tie, end) for tie in range(1, len(sheet) * 3 // 2 + 1) for end in (0, 1)])


class PiecesTest(unittest.TestCase):
    def test_by_hand(self):
        self.assertEqual(sheet_pieces(SPHERE), [[0, 1]])
        self.assertEqual(sheet_pieces(TWO_PIECES), [[0, 3], [1, 2]])
        self.assertEqual(sheet_pieces([(1, 1, 2), (3, 3, 4), (5, 5, 6), (7, 7, 8), (8, 9, 9), (2, 4, 6)]),
                         [[0, 1, 2, 5], [3, 4]])

    def test_over_others_too(self):
        for sheet in NAMED + sheets_of_two() + chance_sheets(13, 40):
            self.assertEqual(sheet_pieces(sheet), pieces_tried(sheet), sheet)

    def test_as_many_pieces_as_there_may_be(self):
        sheet = [(tie, tie + 1, tie + 2) for tie in range(1, 19, 3)] * 2
        self.assertEqual(sheet_pieces(sheet), [[at, at + 6] for at in range(6)])


class NumberTest(unittest.TestCase):
    def test_by_hand(self):
        told = [number(sheet) for sheet in (SPHERE, TORUS, PROJECTIVE, KLEIN, FOLDED, BENT, TWO_PIECES, MIXED_PIECES)]
        self.assertEqual(told, [2, 0, 1, 0, 2, 0, 0, 0])
        self.assertEqual(number([(1, 2, 3), (4, 5, 6), (-6, -5, -4), (-3, -2, -1)]), 4)

    def test_as_told(self):
        for sheet in sheets_of_two() + chance_sheets(14, 20):
            self.assertEqual(number(sheet), len(points_walked(sheet)) - len(sheet) * 3 // 2 + len(sheet))


class FacesTest(unittest.TestCase):
    def test_by_hand(self):
        self.assertEqual(faces(SPHERE), [0, 0])
        self.assertEqual(faces([(1, 2, 3), (1, 2, 3)]), [0, 1])
        self.assertEqual(faces(FOLDED), [0, 0])
        self.assertIs(faces(PROJECTIVE), None)
        self.assertIs(faces(KLEIN), None)
        self.assertIs(faces(BENT), None)
        self.assertEqual(faces(TWO_PIECES), [0, 0, 0, 0])
        self.assertEqual(faces([(1, 2, 3), (4, 5, 6), (4, 5, 6), (-1, -2, -3)]), [0, 0, 1, 0])

    def test_one_piece_with_one_side_is_enough(self):
        self.assertIs(faces(MIXED_PIECES), None)

    def test_a_tie_with_both_sides_of_one_triangle(self):
        self.assertIs(faces([(1, 1, 2), (-2, 3, -3)]), None)
        self.assertEqual(faces([(1, -1, 2), (2, 3, -3)]), [0, 1])

    def test_against_all_lists_tried(self):
        with_two = 0
        for sheet in NAMED + sheets_of_two() + chance_sheets(15, 10):
            tried = faces_tried(sheet)
            self.assertLessEqual(len(tried), 1)
            self.assertEqual(faces(sheet), tried[0] if tried else None, sheet)
            with_two += len(tried)
        self.assertGreater(with_two, 40)

    def test_triangles_laid_the_other_way_about(self):
        chance = random.Random(16)
        for time in range(40):
            sheet = sheet_of([side for tie in range(1, 19) for side in (tie, -tie)])
            sides = [side for triangle in sheet for side in triangle]
            chance.shuffle(sides)
            sheet = sheet_of(sides)
            firsts = [piece[0] for piece in sheet_pieces(sheet)]
            marks = [0 if at in firsts else chance.randint(0, 1) for at in range(12)]
            laid = [upside_down(triangle) if mark else triangle for triangle, mark in zip(sheet, marks)]
            self.assertEqual(faces(laid), marks)

    def test_kinds(self):
        self.assertEqual(repr(faces([(1, 2, 3), (1, 2, 3)])), "[0, 1]")


if __name__ == "__main__":
    unittest.main()
