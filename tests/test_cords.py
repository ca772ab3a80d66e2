"""Cords: points 14 and 15, and what point 3 says of bundles."""

import math
import random
import unittest

from farcords.cordrows import arcs, is_row, ring, sum_of
from farcords.cords import cords, does_part, hall_of, has_one_side, is_single
from farcords.counting import counted
from farcords.errors import NoCord
from farcords.halls import is_hall
from farcords.rooms import sorts_walked
from farcords.sheets import points, sheet_pieces
from tests.bending import ANY_THINGS, bent
from tests.bundles import chance_bundles, times_bundle, whole_row
from tests.cords_walked import cords_walked, crossing_links, pieces_walked, things_of
from tests.refusing import RefusingTest
from tests.sheets_made import (
    BENT, FOLDED, KLEIN, NAMED, PROJECTIVE, SPHERE, TORUS, TWO_PIECES, chance_row, chance_sheets, sheets_of_two,
    small_rows, ties_of, times_row,
)
from tests.walked import pairs, unordered

BIG = 10 ** 59


def parts_walked(sheet, row):
    """Whether the gaps hold together in more pieces than the sheet."""
    return len(pieces_walked(sheet, row)) > len(sheet_pieces(sheet))


def is_single_walked(sheet, row):
    return [copies for found, copies in cords_walked(sheet, row)] == [1]


class HallTest(unittest.TestCase):
    def test_by_hand(self):
        self.assertEqual(hall_of(SPHERE, [1, 1, 2]), (
            4,
            [(1, 2, 1, True), (0, 3, 1, True), (1, 2, 1, True), (0, 3, 1, True)],
            [(1, (1, 0, 0)), (1, (0, 1, 0)), (2, (0, 0, 1))],
        ))
        self.assertEqual(hall_of(TORUS, [2, 3, 5]), (
            10,
            [(2, 5, 3, True), (0, 8, 2, True), (2, 7, 3, True), (0, 5, 2, True)],
            [(2, (1, 0, 0)), (3, (0, 1, 0)), (5, (0, 0, 1))],
        ))
        self.assertEqual(hall_of(KLEIN, [2, 2, 2]), (
            6,
            [(1, 2, 1, True), (3, 4, 1, True), (0, 5, 1, True), (1, 3, 1, False), (2, 5, 1, True), (0, 4, 1, False)],
            [(2, (1, 0, 0)), (2, (0, 1, 0)), (2, (0, 0, 1))],
        ))

    def test_a_tie_with_both_sides_of_one_triangle(self):
        self.assertEqual(hall_of(FOLDED, [3, 4, 2]), (
            9,
            [(2, 2, 1, False), (0, 3, 2, False), (0, 5, 2, True), (3, 7, 2, False), (5, 7, 2, True)],
            [(3, (1, 0, 0)), (4, (0, 1, 0)), (2, (0, 0, 1))],
        ))
        self.assertEqual(hall_of(BENT, [3, 2, 1])[1][0], (0, 1, 2, True))

    def test_noughts(self):
        self.assertEqual(hall_of(SPHERE, [0, 0, 0]), (0, [], []))
        self.assertEqual(hall_of(TWO_PIECES, [0] * 6), (0, [], []))
        self.assertEqual(hall_of(SPHERE, [0, 2, 2]), (4, [(0, 2, 2, True)] * 2, [(2, (0, 1, 0)), (2, (0, 0, 1))]))

    def test_corners_without_arcs_have_no_pairing(self):
        for sheet in sheets_of_two():
            for row in small_rows(sheet, 3):
                longs = [many for corners in arcs(sheet, row) for many in corners if many]
                self.assertEqual([pairing[2] for pairing in hall_of(sheet, row)[1]], longs)

    def test_turned_just_where_both_sides_have_one_sign(self):
        for sheet in sheets_of_two() + chance_sheets(31, 4):
            row = times_row(ring(sheet, 0), 0)
            for point in range(len(points(sheet))):
                row = sum_of(sheet, row, ring(sheet, point))
            signs = [(one > 0) == (other > 0) for a, b, c in sheet for one, other in ((a, b), (b, c), (c, a))]
            for times in (1, 5):
                self.assertEqual([pairing[3] for pairing in hall_of(sheet, times_row(row, times))[1]], signs)

    def test_pairs_are_those_that_arcs_lead_to_one_another(self):
        chance = random.Random(32)
        for sheet in NAMED + sheets_of_two() + chance_sheets(33, 5):
            for row in small_rows(sheet, 2)[:20] if len(sheet) == 2 else [chance_row(chance, sheet, 9)]:
                hall = hall_of(sheet, row)
                self.assertIs(is_hall(hall), True)
                place = {thing: at for at, thing in enumerate(things_of(row, 0))}
                links = [(place[one], place[other]) for one, other in crossing_links(sheet, row)]
                self.assertEqual(unordered([pair for pairing in hall[1] for pair in pairs(pairing)]), unordered(links))

    def test_weights_tell_the_tie(self):
        chance = random.Random(34)
        for sheet in chance_sheets(35, 3):
            row = chance_row(chance, sheet, BIG)
            n, pairings, weighing = hall_of(sheet, row)
            self.assertEqual(n, sum(row))
            self.assertEqual(weighing, [(many, tuple(int(at == tie) for at in range(len(row))))
                                        for tie, many in enumerate(row)])

    def test_rooms_are_the_cords(self):
        for sheet in sheets_of_two()[::7]:
            for row in small_rows(sheet, 4):
                told = [(tuple(found), copies) for found, copies in cords(sheet, row)]
                self.assertEqual(told, sorts_walked(hall_of(sheet, row)))


class CordsTest(RefusingTest):
    def test_by_hand(self):
        self.assertEqual(cords(SPHERE, [1, 1, 2]), [([0, 1, 1], 1), ([1, 0, 1], 1)])
        self.assertEqual(cords(TORUS, [4, 6, 10]), [([2, 3, 5], 2)])
        self.assertEqual(cords(TORUS, [4, 4, 4]), [([2, 2, 2], 2)])
        self.assertEqual(cords(TORUS, [3, 4, 3]), [([1, 2, 1], 1), ([2, 2, 2], 1)])
        self.assertEqual(cords(FOLDED, [3, 4, 2]), [([1, 0, 0], 1), ([1, 2, 1], 2)])

    def test_kinds(self):
        self.assertEqual(repr(cords(SPHERE, [1, 1, 2])), "[([0, 1, 1], 1), ([1, 0, 1], 1)]")

    def test_noughts(self):
        for sheet in NAMED:
            noughts = [0] * ties_of(sheet)
            self.assertEqual(cords(sheet, noughts), [])
            self.assertIs(is_single(sheet, noughts), False)
            self.refused(NoCord, has_one_side, sheet, noughts)
            self.refused(NoCord, does_part, sheet, noughts)

    def test_all_small_rows_against_a_walk(self):
        for sheet in sheets_of_two():
            for row in small_rows(sheet, 5):
                self.assertEqual(cords(sheet, row), cords_walked(sheet, row), (sheet, row))

    def test_greater_sheets_against_a_walk(self):
        chance = random.Random(36)
        for sheet in NAMED + chance_sheets(37, 6):
            for most in (2, 6, 15):
                row = chance_row(chance, sheet, most)
                self.assertEqual(cords(sheet, row), cords_walked(sheet, row), (sheet, row))

    def test_single_cords_sides_and_parting_against_a_walk(self):
        seen = {(one, parts): 0 for one in (False, True) for parts in (False, True)}
        wrong = 0
        chance = random.Random(38)
        for sheet in sheets_of_two() + chance_sheets(39, 4) + NAMED:
            rows = small_rows(sheet, 3) if len(sheet) == 2 else [chance_row(chance, sheet, 5)]
            rows += [found for row in rows[-1:] for found, copies in cords_walked(sheet, row)]
            for row in rows:
                single = is_single_walked(sheet, row)
                self.assertIs(is_single(sheet, row), single, (sheet, row))
                if single:
                    one, parts = has_one_side(sheet, row), does_part(sheet, row)
                    self.assertIs(one, is_single_walked(sheet, times_row(row, 2)), (sheet, row))
                    self.assertIs(parts, parts_walked(sheet, row), (sheet, row))
                    seen[one, parts] += 1
                else:
                    self.refused(NoCord, has_one_side, sheet, row)
                    self.refused(NoCord, does_part, sheet, row)
                    wrong += 1
        self.assertGreater(wrong, 500)
        self.assertEqual(seen.pop((True, True)), 0)
        self.assertTrue(all(many > 50 for many in seen.values()), seen)

    def test_sides_and_parting_by_hand(self):
        self.assertIs(does_part(SPHERE, [1, 1, 0]), True)
        self.assertIs(has_one_side(SPHERE, [1, 1, 0]), False)
        self.assertIs(does_part(TORUS, [1, 1, 2]), False)
        self.assertIs(has_one_side(TORUS, [1, 1, 2]), False)
        self.assertIs(does_part(TORUS, [2, 2, 2]), True)
        self.assertIs(has_one_side(PROJECTIVE, [1, 0, 1]), True)
        self.assertIs(does_part(PROJECTIVE, [1, 0, 1]), False)
        self.assertIs(has_one_side(PROJECTIVE, [2, 0, 2]), False)
        self.assertIs(does_part(PROJECTIVE, [2, 0, 2]), True)

    def test_refused_where_there_are_two(self):
        self.refused(NoCord, has_one_side, SPHERE, [2, 2, 0])
        self.refused(NoCord, does_part, SPHERE, [1, 1, 2])
        self.refused(NoCord, does_part, TORUS, [BIG * 2, BIG * 2, BIG * 4])
        self.refused(NoCord, has_one_side, PROJECTIVE, [3, 0, 3])

    def test_what_is_no_row_is_no_single_cord(self):
        for thing in ANY_THINGS + bent([1, 1, 2]) + [[1, 1, 1], [-1, -1, -2], [1, 1, 2, 0]]:
            self.assertIs(is_single(TORUS, thing), False)
            self.refused(NoCord, has_one_side, TORUS, thing)
            self.refused(NoCord, does_part, TORUS, thing)

    def test_a_cord_with_one_side_and_its_double(self):
        self.assertEqual(cords(PROJECTIVE, [1, 0, 1]), [([1, 0, 1], 1)])
        self.assertEqual(cords(PROJECTIVE, [2, 0, 2]), [([2, 0, 2], 1)])
        self.assertEqual(cords(PROJECTIVE, [3, 0, 3]), [([1, 0, 1], 1), ([2, 0, 2], 1)])
        self.assertEqual(cords(PROJECTIVE, [4, 0, 4]), [([2, 0, 2], 2)])
        self.assertEqual(cords(PROJECTIVE, [BIG + 1, 0, BIG + 1]), [([1, 0, 1], 1), ([2, 0, 2], BIG // 2)])

    def test_several_pieces(self):
        self.assertEqual(cords(TWO_PIECES, [4, 6, 10, 3, 3, 6]), [([0, 0, 0, 1, 1, 2], 3), ([2, 3, 5, 0, 0, 0], 2)])
        self.assertIs(does_part(TWO_PIECES, [0, 0, 0, 2, 2, 2]), True)
        self.assertIs(does_part(TWO_PIECES, [0, 0, 0, 1, 1, 2]), False)


class FarTest(unittest.TestCase):
    def test_cords_round_a_torus(self):
        for one, other in ((6 * BIG, 4 * BIG), (BIG + 7, BIG - 9), (3 ** 120, 2 ** 190), (1, BIG), (0, BIG)):
            copies = math.gcd(one, other)
            row = [one, other, one + other]
            alone = [number // copies for number in row]
            self.assertEqual(cords(TORUS, row), [(alone, copies)])
            self.assertIs(is_single(TORUS, row), copies == 1)
            self.assertIs(does_part(TORUS, alone), False)
            self.assertIs(has_one_side(TORUS, alone), False)
            rings = [number + 2 * BIG for number in row]
            self.assertEqual(cords(TORUS, rings), sorted([(alone, copies), ([2, 2, 2], BIG)]))

    def test_rings(self):
        for sheet in chance_sheets(40, 3):
            row = [0] * ties_of(sheet)
            bundle = []
            for point in range(len(points(sheet))):
                copies = BIG // (point + 1) + point
                bundle.append((ring(sheet, point), copies))
                row = sum_of(sheet, row, times_row(ring(sheet, point), copies))
            merged = {}
            for found, copies in bundle:
                merged[tuple(found)] = merged.get(tuple(found), 0) + copies
            self.assertEqual(cords(sheet, row), sorted((list(found), copies) for found, copies in merged.items()))

    def test_cords_that_lie_beside_one_another_taken_any_number_of_times(self):
        for sheet, bundle in chance_bundles(41, 3):
            self.assertEqual(cords(sheet, whole_row(bundle)), bundle)

    def test_what_is_told_of_any_row(self):
        chance = random.Random(42)
        for sheet in chance_sheets(43, 1):
            row = chance_row(chance, sheet, 10 * BIG)
            told = cords(sheet, row)
            self.assertEqual(whole_row(told), row)
            self.assertEqual(told, sorted(told))
            self.assertEqual(len({tuple(found) for found, copies in told}), len(told))
            for found, copies in told:
                self.assertIs(is_row(sheet, found), True)
                self.assertIs(is_single(sheet, found), True)
                self.assertEqual(cords(sheet, found), [(found, 1)])
                if has_one_side(sheet, found):
                    self.assertEqual(copies, 1)
                    self.assertIs(is_single(sheet, times_row(found, 2)), True)
                    self.assertIs(does_part(sheet, found), False)
                else:
                    self.assertEqual(cords(sheet, times_row(found, 2)), [(found, 2)])

    def test_a_row_taken_k_times(self):
        for sheet, bundle in chance_bundles(44, 1):
            row = whole_row(bundle)
            for k in (1, 2, 3, 10, 10 ** 20 + 1):
                self.assertEqual(cords(sheet, times_row(row, k)), times_bundle(sheet, bundle, k))

    def test_told_again_when_handed_in_again(self):
        # What was told may be handed in again, whatever its size.
        chance = random.Random(45)
        for sheet in chance_sheets(46, 1):
            row = chance_row(chance, sheet, 10 * BIG)
            twice = sum_of(sheet, row, row)
            self.assertEqual(whole_row(cords(sheet, twice)), twice)
            hall = hall_of(sheet, twice)
            self.assertEqual([(list(weights), many) for weights, many in counted(hall)[1]], cords(sheet, twice))


if __name__ == "__main__":
    unittest.main()
