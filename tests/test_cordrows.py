"""Cord rows: point 13."""

import itertools
import random
import unittest

from farcords.cordrows import arcs, is_row, ring, row_of, sum_of
from farcords.cords import cords
from farcords.errors import NoRow
from farcords.sheets import points
from tests.bending import ANY_THINGS, bent
from tests.refusing import RefusingTest
from tests.sheets_made import (
    BENT, FOLDED, KLEIN, NAMED, PROJECTIVE, SPHERE, TORUS, TWO_PIECES, chance_row, chance_sheets, fits_all, plus_row,
    sheets_of_two, small_rows, ties_of, times_row,
)

BIG = 10 ** 60


def rows_of_arcs(sheet, most):
    """All rows that arcs up to the most at each corner make, with those arcs."""
    found = {}
    for numbers in itertools.product(range(most + 1), repeat=3 * len(sheet)):
        corners = [numbers[at:at + 3] for at in range(0, len(numbers), 3)]
        row = {}
        for triangle, (a, b, c) in zip(sheet, corners):
            for side, many in zip(triangle, (c + a, a + b, b + c)):
                row.setdefault(abs(side), set()).add(many)
        if all(len(numbers) == 1 for numbers in row.values()):
            found[tuple(min(row[tie]) for tie in sorted(row))] = corners
    return found


class IsRowTest(unittest.TestCase):
    def test_rows_are_what_arcs_make(self):
        for sheet in (SPHERE, PROJECTIVE, FOLDED, BENT):
            made = rows_of_arcs(sheet, 3)
            for numbers in itertools.product(range(4), repeat=3):
                self.assertIs(is_row(sheet, list(numbers)), numbers in made, (sheet, numbers))

    def test_each_triangle_is_asked(self):
        for sheet in sheets_of_two():
            for numbers in itertools.product(range(5), repeat=3):
                self.assertIs(is_row(sheet, list(numbers)), fits_all(sheet, numbers), (sheet, numbers))

    def test_greater_sheets(self):
        chance = random.Random(21)
        wrong = 0
        for sheet in chance_sheets(22, 10):
            row = chance_row(chance, sheet, 12)
            self.assertIs(is_row(sheet, row), True)
            for at in range(len(row)):
                for step in (-12, -2, -1, 1, 2, 24):
                    other = row[:at] + [row[at] + step] + row[at + 1:]
                    told = is_row(sheet, other)
                    self.assertIs(told, min(other) >= 0 and fits_all(sheet, other), (sheet, other))
                    wrong += not told
        self.assertGreater(wrong, 1000)

    def test_noughts(self):
        for sheet in NAMED:
            self.assertIs(is_row(sheet, [0] * ties_of(sheet)), True)

    def test_below_nought(self):
        self.assertIs(is_row(SPHERE, [-2, -2, -2]), False)
        self.assertIs(is_row(SPHERE, [2, 2, -2]), False)
        self.assertIs(is_row(FOLDED, [-1, 0, 0]), False)

    def test_how_many_numbers(self):
        for sheet in NAMED:
            for many in range(12):
                self.assertIs(is_row(sheet, [2] * many), many == ties_of(sheet))

    def test_of_any_size(self):
        for big in (BIG, 10 ** 300):
            self.assertIs(is_row(SPHERE, [big, big, 2 * big]), True)
            self.assertIs(is_row(SPHERE, [big, big, 2 * big + 2]), False)
            self.assertIs(is_row(SPHERE, [big, big, 2 * big - 1]), False)
            self.assertIs(is_row(SPHERE, [big + 1, big, 2 * big - 1]), True)

    def test_wrong_kinds(self):
        for sheet, row in ((SPHERE, [1, 1, 2]), (TORUS, [0, 0, 0]), (TWO_PIECES, [1, 1, 0, 2, 2, 2])):
            self.assertIs(is_row(sheet, row), True)
            for thing in ANY_THINGS + bent(row) + [sheet, (sheet, row)]:
                self.assertIs(is_row(sheet, thing), False, repr(thing))
        self.assertIs(is_row(SPHERE, [True, True, 2]), False)
        self.assertIs(is_row(SPHERE, [False, False, False]), False)
        self.assertIs(is_row(SPHERE, (1, 1, 2)), False)
        self.assertIs(is_row(SPHERE, ["1", "1", "2"]), False)
        self.assertIs(is_row(SPHERE, "112"), False)
        self.assertIs(is_row(SPHERE, [[1, 1, 2]]), False)
        self.assertIs(is_row(SPHERE, None), False)


class ArcsTest(RefusingTest):
    def test_by_hand(self):
        self.assertEqual(arcs(SPHERE, [1, 1, 2]), [(0, 1, 1), (1, 0, 1)])
        self.assertEqual(arcs(TORUS, [2, 3, 5]), [(0, 3, 2), (0, 3, 2)])
        self.assertEqual(arcs(FOLDED, [3, 4, 2]), [(1, 2, 2), (2, 0, 2)])
        self.assertEqual(arcs(SPHERE, [0, 0, 0]), [(0, 0, 0), (0, 0, 0)])

    def test_kinds(self):
        self.assertEqual(repr(arcs(SPHERE, [1, 1, 2])), "[(0, 1, 1), (1, 0, 1)]")
        self.assertEqual(repr(row_of(SPHERE, [(0, 1, 1), (1, 0, 1)])), "[1, 1, 2]")

    def test_arcs_are_what_the_row_is_made_of(self):
        for sheet in (SPHERE, KLEIN, FOLDED, BENT):
            for row, corners in rows_of_arcs(sheet, 2).items():
                self.assertEqual(arcs(sheet, list(row)), corners)

    def test_there_and_back(self):
        chance = random.Random(23)
        for sheet in NAMED + sheets_of_two() + chance_sheets(24, 10):
            for most in (8, 10 ** 60):
                row = chance_row(chance, sheet, most)
                told = arcs(sheet, row)
                self.assertTrue(all(type(corners) is tuple and min(corners) >= 0 for corners in told))
                self.assertEqual(row_of(sheet, told), row)

    def test_arcs_that_fit(self):
        for sheet in (SPHERE, TORUS, PROJECTIVE, FOLDED, BENT):
            fitting = rows_of_arcs(sheet, 2)
            for numbers in itertools.product(range(3), repeat=6):
                corners = [numbers[:3], numbers[3:]]
                if corners in fitting.values():
                    row = row_of(sheet, corners)
                    self.assertEqual(fitting[tuple(row)], corners)
                else:
                    self.refused(NoRow, row_of, sheet, corners)

    def test_arcs_that_fit_no_row(self):
        self.refused(NoRow, row_of, SPHERE, [(1, 0, 0), (0, 0, 0)])
        self.refused(NoRow, row_of, SPHERE, [(0, 1, 1), (1, 1, 0)])
        self.refused(NoRow, row_of, TORUS, [(BIG, BIG, BIG), (BIG, BIG, BIG + 1)])
        chance = random.Random(25)
        for sheet in chance_sheets(26, 4):
            corners = arcs(sheet, chance_row(chance, sheet, 20))
            for at, (a, b, c) in enumerate(corners):
                # One arc more at one corner is met by none behind the tie, unless both sides of the tie have it.
                sides = [abs(side) for side in sheet[at]]
                if len(set(sides)) == 3:
                    self.refused(NoRow, row_of, sheet, corners[:at] + [(a + 1, b, c)] + corners[at + 1:])


    def test_what_is_no_arcs(self):
        good = [(0, 1, 1), (1, 0, 1)]
        self.assertEqual(row_of(SPHERE, good), [1, 1, 2])
        for thing in ANY_THINGS + bent(good):
            self.refused(NoRow, row_of, SPHERE, thing)
        self.refused(NoRow, row_of, SPHERE, [(-1, 1, 1), (1, -1, 1)])
        self.refused(NoRow, row_of, SPHERE, good + good)
        self.refused(NoRow, row_of, SPHERE, [(0, 1, 1, 0), (1, 0, 1, 0)])


class SumTest(unittest.TestCase):
    def test_by_hand(self):
        self.assertEqual(sum_of(SPHERE, [1, 1, 2], [0, 4, 4]), [1, 5, 6])
        self.assertEqual(sum_of(SPHERE, [0, 0, 0], [0, 0, 0]), [0, 0, 0])

    def test_sums_are_rows(self):
        chance = random.Random(27)
        for sheet in NAMED + chance_sheets(28, 5):
            for most in (9, BIG):
                one, other = chance_row(chance, sheet, most), chance_row(chance, sheet, 30)
                told = sum_of(sheet, one, other)
                self.assertEqual(told, plus_row(one, other))
                self.assertIs(is_row(sheet, told), True)
                self.assertEqual(sum_of(sheet, one, one), times_row(one, 2))


class RingTest(unittest.TestCase):
    def test_by_hand(self):
        self.assertEqual([ring(SPHERE, point) for point in range(3)], [[1, 0, 1], [1, 1, 0], [0, 1, 1]])
        self.assertEqual(ring(TORUS, 0), [2, 2, 2])
        self.assertEqual([ring(PROJECTIVE, point) for point in range(2)], [[1, 1, 2], [1, 1, 0]])
        self.assertEqual([ring(FOLDED, point) for point in range(3)], [[1, 2, 1], [1, 0, 0], [0, 0, 1]])

    def test_each_end_is_crossed_once(self):
        for sheet in NAMED + sheets_of_two() + chance_sheets(29, 10):
            for point, ends in enumerate(points(sheet)):
                ties = [tie for tie, end in ends]
                row = ring(sheet, point)
                self.assertEqual(row, [ties.count(tie) for tie in range(1, ties_of(sheet) + 1)])
                self.assertIs(is_row(sheet, row), True)
                self.assertEqual(cords(sheet, row), [(row, 1)])

    def test_all_rings_together_cross_each_tie_twice(self):
        for sheet in chance_sheets(30, 10):
            row = [0] * ties_of(sheet)
            for point in range(len(points(sheet))):
                row = sum_of(sheet, row, ring(sheet, point))
            self.assertEqual(row, [2] * ties_of(sheet))
            self.assertEqual(arcs(sheet, row), [(1, 1, 1)] * len(sheet))

    def test_small_rows_are_rings_round_the_points_of_a_sphere(self):
        # On a sphere with three points there is no other cord than the rings.
        for row in small_rows(SPHERE, 6):
            rings = [ring(SPHERE, point) for point in range(3)]
            self.assertTrue(all(found in rings for found, copies in cords(SPHERE, row)), row)


if __name__ == "__main__":
    unittest.main()
