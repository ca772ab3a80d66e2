"""Turned ties: points 16 and 17, and what point 3 says of them."""

import random
import unittest

from farcords.cordrows import is_row
from farcords.cords import cords, does_part, has_one_side
from farcords.errors import NoTurn
from farcords.sheets import faces, is_sheet, number, points, sheet_pieces
from farcords.ties import row_turned, turned_tie
from tests.bundles import chance_bundles, merged, whole_row
from tests.cords_walked import cords_walked
from tests.refusing import RefusingTest
from tests.sheets_made import (
    BENT, FOLDED, KLEIN, NAMED, SPHERE, TORUS, TWO_PIECES, beside, chance_row, chance_sheets, sheets_of_two, small_rows,
    ties_of, turnable, upside_down,
)

BIG = 10 ** 61


def one_way(triangle, tie, sign):
    """The triangle, told in one way whichever side it was told from and which way about; the tie goes as the sign says."""
    sides = tuple(side * sign if abs(side) == tie else side for side in triangle)
    ways = [sides, upside_down(sides)]
    return min(way[at:] + way[:at] for way in ways for at in range(3))


def same_but_for_the_tie(one, other, tie):
    """Whether two sheets are alike as point 17 asks it of one turned there and back."""
    both = sorted(set(beside(one, tie)))
    if any(one[at] != other[at] for at in range(len(one)) if at not in both):
        return False
    told = sorted(one_way(one[at], tie, 1) for at in both)
    return any(told == sorted(one_way(other[at], tie, sign) for at in both) for sign in (1, -1))


class TurnedTieTest(RefusingTest):
    def test_by_hand(self):
        # Both sides of tie 2 have unlike signs: A is (2, 3, 1), B is (-2, -1, -3).
        self.assertEqual(turned_tie(SPHERE, 2), [(1, -1, -2), (-3, 3, 2)])
        # A is (1, 2, 3), B is (-1, -2, -3).
        self.assertEqual(turned_tie(TORUS, 1), [(3, -2, -1), (-3, 2, 1)])
        # A is (3, 1, 2), B is (-3, -1, -2).
        self.assertEqual(turned_tie(TORUS, 3), [(2, -1, -3), (-2, 1, 3)])

    def test_the_other_triangle_taken_the_other_way_about(self):
        # A is (1, 2, 3), B is (1, -2, -3), so u is 3 and v is 2.
        self.assertEqual(turned_tie(KLEIN, 1), [(3, 3, -1), (2, 2, 1)])
        # A is (2, 1, 1), B is (2, 3, 3), so u and v are -3.
        self.assertEqual(turned_tie(BENT, 2), [(1, -3, -2), (-3, 1, 2)])
        sheet = [(4, -1, 2), (3, 3, -2), (5, -1, 6), (-6, 4, 5)]
        # A is (-1, 2, 4), B is (-1, 6, 5), so u is -5 and v is -6.
        self.assertEqual(turned_tie(sheet, 1), [(4, -5, -1), (3, 3, -2), (-6, 2, 1), (-6, 4, 5)])
        # A is (4, -1, 2), B is (4, 5, -6), so u is 6 and v is -5.
        self.assertEqual(turned_tie(sheet, 4), [(2, 6, -4), (3, 3, -2), (5, -1, 6), (-5, -1, 4)])

    def test_the_tie_goes_the_other_way_in_the_first_triangle(self):
        # A is (-1, 2, 3), B is (1, 4, 5).
        sheet = [(3, -1, 2), (6, 6, 2), (3, 4, -5), (5, 1, 4)]
        self.assertEqual(turned_tie(sheet, 1), [(3, 4, -1), (6, 6, 2), (3, 4, -5), (5, 2, 1)])

    def test_kinds(self):
        self.assertEqual(repr(turned_tie(TORUS, 1)), "[(3, -2, -1), (-3, 2, 1)]")
        self.assertEqual(repr(row_turned(TORUS, [1, 1, 2], 3)), "[1, 1, 0]")

    def test_the_sheet_behind_the_turn(self):
        for sheet in NAMED + sheets_of_two() + chance_sheets(51, 8):
            for tie in turnable(sheet):
                told = turned_tie(sheet, tie)
                self.assertIs(is_sheet(told), True, (sheet, tie))
                self.assertEqual(number(told), number(sheet))
                self.assertEqual(len(points(told)), len(points(sheet)))
                self.assertEqual(len(sheet_pieces(told)), len(sheet_pieces(sheet)))
                self.assertEqual(faces(told) is None, faces(sheet) is None)
                both = set(beside(sheet, tie))
                self.assertEqual(set(beside(told, tie)), both)
                self.assertTrue(all(told[at] == sheet[at] for at in range(len(sheet)) if at not in both))

    def test_turned_and_turned_back(self):
        for sheet in NAMED + sheets_of_two() + chance_sheets(52, 8):
            for tie in turnable(sheet):
                twice = turned_tie(turned_tie(sheet, tie), tie)
                self.assertTrue(same_but_for_the_tie(sheet, twice, tie), (sheet, tie, twice))

    def test_ends_of_the_tie_lie_at_the_other_corners(self):
        # In a sphere of four triangles each two of its four points have one tie between them.
        sheet = [(1, 2, 3), (-1, 4, 5), (-2, -5, 6), (-3, -6, -4)]
        self.assertEqual((number(sheet), len(points(sheet))), (2, 4))
        told = turned_tie(sheet, 1)
        self.assertEqual(told, [(3, 4, -1), (5, 2, 1), (-2, -5, 6), (-3, -6, -4)])
        self.assertEqual(points(sheet)[:2], [[(1, 0), (3, 1), (4, 0)], [(1, 1), (2, 0), (5, 1)]])
        self.assertEqual(points(told), [
            [(1, 0), (2, 1), (3, 0), (6, 1)], [(1, 1), (4, 1), (5, 0), (6, 0)], [(2, 0), (5, 1)], [(3, 1), (4, 0)],
        ])

    def test_both_sides_of_one_triangle(self):
        for sheet, tie in ((FOLDED, 1), (FOLDED, 3), (BENT, 1), (BENT, 3)):
            self.refused(NoTurn, turned_tie, sheet, tie)
            self.refused(NoTurn, row_turned, sheet, [2, 2, 2], tie)
        many = 0
        for sheet in chance_sheets(53, 10):
            for tie in set(range(1, ties_of(sheet) + 1)) - set(turnable(sheet)):
                self.refused(NoTurn, turned_tie, sheet, tie)
                self.refused(NoTurn, row_turned, sheet, [2] * ties_of(sheet), tie)
                many += 1
        self.assertGreater(many, 20)

    def test_numbers_that_are_no_tie(self):
        for sheet in (SPHERE, TORUS, TWO_PIECES):
            for tie in (0, -1, -2, -3, ties_of(sheet) + 1, -ties_of(sheet), 100, BIG, -BIG):
                self.refused(NoTurn, turned_tie, sheet, tie)
                self.refused(NoTurn, row_turned, sheet, [2] * ties_of(sheet), tie)

    def test_what_is_no_number(self):
        for thing in (True, None, "1", [1], (1,)):
            self.refused(NoTurn, turned_tie, TORUS, thing)
            self.refused(NoTurn, row_turned, TORUS, [1, 1, 2], thing)


class RowTurnedTest(unittest.TestCase):
    def test_by_hand(self):
        self.assertEqual(row_turned(TORUS, [2, 3, 5], 3), [2, 3, 1])
        self.assertEqual(row_turned(TORUS, [2, 3, 5], 1), [8, 3, 5])
        self.assertEqual(row_turned(TORUS, [2, 3, 5], 2), [2, 7, 5])
        # Of A (2, 3, 1) and B (-2, -1, -3): of 3 and 1 on either side.
        self.assertEqual(row_turned(SPHERE, [1, 0, 1], 2), [1, 2, 1])
        self.assertEqual(row_turned(KLEIN, [2, 4, 6], 1), [8, 4, 6])
        self.assertEqual(row_turned(TORUS, [0, 0, 0], 2), [0, 0, 0])

    def test_rows_behind_the_turn_against_a_walk(self):
        chance = random.Random(54)
        for sheet in sheets_of_two() + chance_sheets(55, 2):
            rows = small_rows(sheet, 3) if len(sheet) == 2 else [chance_row(chance, sheet, 8)]
            for tie in turnable(sheet):
                turned = turned_tie(sheet, tie)
                for row in rows:
                    told = row_turned(sheet, row, tie)
                    self.assertIs(is_row(turned, told), True, (sheet, row, tie))
                    self.assertEqual(told[:tie - 1] + told[tie:], row[:tie - 1] + row[tie:])
                    bundle = [(row_turned(sheet, found, tie), copies) for found, copies in cords_walked(sheet, row)]
                    self.assertEqual(cords_walked(turned, told), sorted(bundle), (sheet, row, tie))

    def test_turned_back_the_number_is_there_again(self):
        chance = random.Random(56)
        for sheet in NAMED + sheets_of_two() + chance_sheets(57, 5):
            for most in (6, 10 ** 60):
                row = chance_row(chance, sheet, most)
                for tie in turnable(sheet):
                    told = row_turned(sheet, row, tie)
                    self.assertEqual(row_turned(turned_tie(sheet, tie), told, tie), row)

    def test_rings_stay_rings(self):
        for sheet in chance_sheets(58, 5):
            for tie in turnable(sheet):
                turned = turned_tie(sheet, tie)
                for at, ends in enumerate(points(sheet)):
                    row = [sum(end[0] == k for end in ends) for k in range(1, ties_of(sheet) + 1)]
                    told = row_turned(sheet, row, tie)
                    rings = [[sum(end[0] == k for end in point) for k in range(1, ties_of(sheet) + 1)]
                             for point in points(turned)]
                    self.assertIn(told, rings)


class ManyTurnsTest(unittest.TestCase):
    def test_cords_copies_sides_and_parting_stay(self):
        chance = random.Random(59)
        for sheet, bundle in chance_bundles(60, 2, 10 ** 30):
            row = whole_row(bundle)
            told = [(found, copies, has_one_side(sheet, found), does_part(sheet, found)) for found, copies in bundle]
            for time in range(40):
                ties = turnable(sheet)
                if not ties:
                    break
                tie = chance.choice(ties)
                row = row_turned(sheet, row, tie)
                told = [(row_turned(sheet, found, tie), copies, one, parts) for found, copies, one, parts in told]
                sheet = turned_tie(sheet, tie)
            self.assertIs(is_row(sheet, row), True)
            self.assertEqual(cords(sheet, row), merged([(found, copies) for found, copies, one, parts in told]))
            for found, copies, one, parts in told:
                self.assertIs(has_one_side(sheet, found), one)
                self.assertIs(does_part(sheet, found), parts)

    def test_two_ties_turned_in_turn_make_numbers_of_sixty_figures(self):
        sheet, row = TORUS, [1, 1, 2]
        turns = 0
        while max(row) < 10 ** 60:
            # The greatest number would only get less.
            tie = min((row[tie - 1], tie) for tie in turnable(sheet))[1]
            sheet, row = turned_tie(sheet, tie), row_turned(sheet, row, tie)
            turns += 1
        self.assertGreater(turns, 100)
        self.assertEqual(cords(sheet, row), [(row, 1)])
        self.assertEqual(cords(sheet, [number * 10 ** 9 for number in row]), [(row, 10 ** 9)])


if __name__ == "__main__":
    unittest.main()
