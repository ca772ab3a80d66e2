"""Pieces left: points 18 and 19, and what point 3 says of them."""

import random
import unittest

from farcords.cordrows import ring, sum_of
from farcords.cords import cords, does_part, has_one_side, is_single
from farcords.counting import counted
from farcords.halls import is_hall
from farcords.leavings import gap_hall, left
from farcords.rooms import sorts_walked
from farcords.sheets import number, points, sheet_pieces
from farcords.ties import row_turned, turned_tie
from tests.bundles import chance_bundles, whole_row
from tests.cords_walked import corner_links, gap_links, gap_weights, left_walked, things_of
from tests.sheets_made import (
    BENT, FOLDED, KLEIN, NAMED, PROJECTIVE, SPHERE, TORUS, TWO_PIECES, chance_row, chance_sheets, sheets_of_two,
    small_rows, ties_of, times_row, turnable,
)
from tests.walked import gathered, pairs, unordered

BIG = 10 ** 59


def gap_hall_walked(sheet, row):
    """The hall of gaps, laid gap by gap."""
    things = things_of(row, 1)
    place = {gap: at for at, gap in enumerate(things)}
    pairings = []
    for at, triangle in enumerate(sheet):
        corners = corner_links([triangle], row, 1)
        for i, (one, other, many) in enumerate(corners):
            begins = sorted(min(place[gap] for gap in gaps[:many]) for gaps in (one, other) if many)
            if many:
                is_turned = (triangle[i] > 0) == (triangle[(i + 1) % 3] > 0)
                pairings.append((begins[0], begins[1], many, is_turned))
        for one, other, many in corners[:2]:
            low, high = sorted([place[one[many]], place[other[many]]])
            pairings.append((low, high, 1, False))
    weights = gap_weights(sheet, row)
    return (len(things), pairings, gathered([weights.get(gap, (0, 0)) for gap in things]))


def twice_the_numbers(pieces):
    """Twice what the numbers of the pieces come to."""
    return sum(many * (2 * within - middles) for within, middles, many in pieces)


class GapHallTest(unittest.TestCase):
    def test_by_hand(self):
        # Gaps 0, 1 of tie 1, 2 of tie 2, 3, 4 of tie 3; the points 0 and 1 lie at gaps 0 and 1, the point 2 at gap 2.
        self.assertEqual(gap_hall(SPHERE, [1, 0, 1]), (
            5,
            [(0, 4, 1, True), (1, 2, 1, False), (2, 3, 1, False), (0, 4, 1, True), (2, 3, 1, False), (1, 2, 1, False)],
            [(1, (1, 0)), (1, (1, 1)), (1, (1, 0)), (1, (0, 1)), (1, (0, 0))],
        ))
        self.assertEqual(left(SPHERE, [1, 0, 1]), [(1, 0, 1), (2, 2, 1)])

    def test_noughts(self):
        # All lies at the one gap of each tie.
        self.assertEqual(gap_hall(TORUS, [0, 0, 0]),
                         (3, [(0, 1, 1, False), (1, 2, 1, False)] * 2, [(1, (1, 2)), (2, (0, 0))]))
        self.assertEqual(gap_hall(FOLDED, [0, 0, 0]), (
            3, [(0, 0, 1, False), (0, 1, 1, False), (1, 2, 1, False), (2, 2, 1, False)],
            [(1, (2, 1)), (1, (0, 1)), (1, (1, 0))],
        ))
        self.assertEqual(gap_hall(PROJECTIVE, [0, 0, 0])[2], [(1, (2, 2)), (2, (0, 0))])

    def test_laid_gap_by_gap(self):
        chance = random.Random(71)
        for sheet in NAMED + sheets_of_two() + chance_sheets(72, 4):
            rows = small_rows(sheet, 3) if len(sheet) == 2 else [chance_row(chance, sheet, most) for most in (2, 7)]
            for row in rows:
                hall = gap_hall(sheet, row)
                self.assertIs(is_hall(hall), True)
                self.assertEqual(repr(hall), repr(gap_hall_walked(sheet, row)), (sheet, row))

    def test_pairs_are_of_gaps_of_one_piece(self):
        chance = random.Random(73)
        for sheet in chance_sheets(74, 2):
            row = chance_row(chance, sheet, 6)
            place = {gap: at for at, gap in enumerate(things_of(row, 1))}
            links = {tuple(sorted((place[one], place[other]))) for one, other in gap_links(sheet, row)}
            told = [pair for pairing in gap_hall(sheet, row)[1] for pair in pairs(pairing)]
            self.assertTrue(set(unordered(told)) <= links)

    def test_far_halls(self):
        chance = random.Random(75)
        for sheet in chance_sheets(76, 2):
            row = chance_row(chance, sheet, 10 * BIG)
            hall = gap_hall(sheet, row)
            self.assertIs(is_hall(hall), True)
            self.assertEqual(hall[0], sum(row) + len(row))
            whole = [sum(many * weights[at] for many, weights in hall[2]) for at in (0, 1)]
            self.assertEqual(whole, [len(points(sheet)), len(sheet)])


class LeftTest(unittest.TestCase):
    def test_by_hand(self):
        self.assertEqual(left(SPHERE, [1, 1, 2]), [(1, 0, 2), (1, 2, 1)])
        self.assertEqual(left(TORUS, [4, 6, 10]), [(0, 0, 1), (1, 2, 1)])
        self.assertEqual(left(TORUS, [2, 2, 2]), [(0, 2, 1), (1, 0, 1)])
        self.assertEqual(left(PROJECTIVE, [1, 0, 1]), [(2, 2, 1)])
        self.assertEqual(left(PROJECTIVE, [2, 0, 2]), [(0, 0, 1), (2, 2, 1)])
        self.assertEqual(left(FOLDED, [1, 0, 0]), [(1, 0, 1), (2, 2, 1)])

    def test_kinds(self):
        self.assertEqual(repr(left(SPHERE, [1, 1, 2])), "[(1, 0, 2), (1, 2, 1)]")

    def test_noughts(self):
        self.assertEqual(left(TORUS, [0, 0, 0]), [(1, 2, 1)])
        self.assertEqual(left(TWO_PIECES, [0] * 6), [(1, 2, 2)])
        for sheet in chance_sheets(77, 5):
            told = left(sheet, [0] * ties_of(sheet))
            self.assertEqual(sum(many for within, middles, many in told), len(sheet_pieces(sheet)))
            self.assertEqual(told, left_walked(sheet, [0] * ties_of(sheet)))

    def test_all_small_rows_against_a_walk(self):
        for sheet in sheets_of_two():
            for row in small_rows(sheet, 4):
                self.assertEqual(left(sheet, row), left_walked(sheet, row), (sheet, row))

    def test_greater_sheets_against_a_walk(self):
        chance = random.Random(78)
        for sheet in NAMED + chance_sheets(79, 6):
            for most in (2, 6, 15):
                row = chance_row(chance, sheet, most)
                self.assertEqual(left(sheet, row), left_walked(sheet, row), (sheet, row))

    def test_rooms_are_the_pieces(self):
        for sheet in (SPHERE, KLEIN, BENT, TWO_PIECES):
            for row in small_rows(sheet, 2):
                told = [((within, middles), many) for within, middles, many in left(sheet, row)]
                self.assertEqual(told, sorts_walked(gap_hall(sheet, row)))

    def test_the_numbers_come_to_the_sheets(self):
        chance = random.Random(80)
        for sheet in NAMED + sheets_of_two()[::5] + chance_sheets(81, 2):
            for most in (5, 10 * BIG):
                row = chance_row(chance, sheet, most)
                told = left(sheet, row)
                self.assertEqual(twice_the_numbers(told), 2 * number(sheet))
                self.assertEqual(sum(within * many for within, middles, many in told), len(points(sheet)))
                self.assertEqual(sum(middles * many for within, middles, many in told), len(sheet))

    def test_a_single_cord_parts_just_where_there_is_a_piece_more(self):
        seen = {True: 0, False: 0}
        for sheet, bundle in chance_bundles(82, 6, 5):
            for row, copies in bundle:
                pieces = sum(many for within, middles, many in left(sheet, row))
                self.assertEqual(pieces, len(sheet_pieces(sheet)) + does_part(sheet, row))
                seen[does_part(sheet, row)] += 1
        self.assertGreater(min(seen.values()), 20)

    def test_strips_between_copies(self):
        # So many copies of a cord with two sides lie side by side, with one strip less between them.
        for sheet in chance_sheets(83, 2):
            row = ring(sheet, 0)
            once = left(sheet, row)
            strips = sum(many for within, middles, many in once if (within, middles) == (0, 0))
            rest = [piece for piece in once if piece[:2] != (0, 0)]
            told = left(sheet, times_row(row, BIG))
            self.assertEqual(told, [(0, 0, strips + BIG - 1)] + rest)

    def test_far_bundles_leave_strips_and_what_their_cords_leave(self):
        for sheet, bundle in chance_bundles(84, 2):
            one_each = [(row, 1) for row, copies in bundle]
            once, often = left(sheet, whole_row(one_each)), left(sheet, whole_row(bundle))
            if cords(sheet, whole_row(one_each)) != one_each:
                # A cord with one side lay beside its double: the row of one each holds other cords.
                continue
            strips = [sum(many for within, middles, many in told if (within, middles) == (0, 0))
                      for told in (once, often)]
            more = sum(copies - 1 for row, copies in bundle)
            self.assertEqual(strips[1] - strips[0], more)
            self.assertEqual([piece for piece in once if piece[:2] != (0, 0)],
                             [piece for piece in often if piece[:2] != (0, 0)])

    def test_cut_along_a_cord_with_one_side(self):
        self.assertTrue(is_single(PROJECTIVE, [1, 0, 1]) and has_one_side(PROJECTIVE, [1, 0, 1]))
        for times in (2, 3, BIG, BIG + 1):
            # Within the innermost double lies one piece, with the cord in it or not, and between two doubles another.
            told = left(PROJECTIVE, times_row([1, 0, 1], times))
            self.assertEqual(told, [(0, 0, times // 2), (2, 2, 1)])

    def test_turned_ties_leave_pieces_of_the_same_numbers(self):
        chance = random.Random(85)
        for sheet in chance_sheets(86, 2):
            row = chance_row(chance, sheet, BIG)
            for tie in turnable(sheet)[:2]:
                told = left(turned_tie(sheet, tie), row_turned(sheet, row, tie))
                numbers = {}
                for pieces, sign in ((told, 1), (left(sheet, row), -1)):
                    for within, middles, many in pieces:
                        key = (within, 2 * within - middles)
                        numbers[key] = numbers.get(key, 0) + sign * many
                self.assertFalse(any(numbers.values()), (sheet, row, tie))

    def test_told_of_the_hall(self):
        row = sum_of(TORUS, [4, 6, 10], [BIG, BIG, 2 * BIG])
        self.assertEqual([(weights + (many,)) for weights, many in counted(gap_hall(TORUS, row))[1]], left(TORUS, row))


if __name__ == "__main__":
    unittest.main()
