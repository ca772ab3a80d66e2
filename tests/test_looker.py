"""Papers and the looker: point 20, and what point 3 says of papers."""

import random
import unittest

from farcords.cordrows import is_row
from farcords.cords import cords, hall_of
from farcords.counting import counted, emptied
from farcords.halls import is_hall
from farcords.leavings import gap_hall
from farcords.looker import cord_paper, holds, room_paper
from farcords.rooms import sorts_walked
from tests.bending import ANY_THINGS, bent
from tests.cords_walked import cords_walked
from tests.deeds_walked import WALKS, deed_walked
from tests.halls_made import chance_halls, exchange, far_halls, small_halls
from tests.sheets_made import (
    FOLDED, KLEIN, NAMED, PROJECTIVE, SPHERE, TORUS, TWO_PIECES, chance_row, chance_sheets, sheets_of_two, small_rows,
    ties_of,
)
from tests.test_counting import done_one_behind_another, some_deeds
from tests.walked import together_sorts

BIG = 10 ** 59
HALL = (7, [(0, 2, 5, False)], [(4, (1, 0)), (3, (0, 1))])
SORTS = [((2, 1), 1), ((2, 2), 1)]
GOOD = ("rooms", HALL, [("cut", 0, 2), ("free", 0)], 2, SORTS)
# The hall of this row has the pairings (1, 2, 1, True) and (0, 3, 1, True), one behind the other, twice.
GOOD_CORDS = ("cords", SPHERE, [1, 1, 2],
              [("carried", 1, 3, "high"), ("gone", 3), ("cut", 1, 3), ("carried", 0, 1, "high"), ("gone", 1),
               ("cut", 0, 2), ("free", 0)],
              [([0, 1, 1], 1), ([1, 0, 1], 1)])


def counted_walked(hall, deeds):
    """The number and the sorts that the deeds count, walked; None where they don't empty the hall."""
    lists = []
    for deed in deeds:
        formed = type(deed) is tuple and len(deed) > 0 and type(deed[0]) is str and deed[0] in WALKS
        if not formed or len(deed) != {"gone": 2, "folded": 2, "free": 2, "joined": 3, "cut": 3, "carried": 4}[deed[0]]:
            return None
        done = deed_walked(hall, deed)
        if done is None:
            return None
        hall, sorts = done
        lists.append(sorts)
    sorts = together_sorts(lists)
    return (sum(many for weights, many in sorts), sorts) if hall[0] == 0 else None


def holds_walked(paper):
    """Whether a paper of a hall, all of it of the right kinds, holds."""
    word, hall, deeds, number, sorts = paper
    return is_hall(hall) and counted_walked(hall, deeds) == (number, sorts)


def moved_by_one(thing):
    """The thing with one of its whole numbers one less or more, each such one."""
    if type(thing) is int:
        return [thing - 1, thing + 1]
    found = []
    if type(thing) in (list, tuple):
        for at, part in enumerate(thing):
            for other in moved_by_one(part):
                found.append(type(thing)(list(thing[:at]) + [other] + list(thing[at + 1:])))
    return found


def other_orders(deeds):
    """The deeds with one left out, doubled or put elsewhere."""
    found = []
    for at, deed in enumerate(deeds):
        rest = deeds[:at] + deeds[at + 1:]
        found += [rest, deeds[:at] + [deed] + deeds[at:], deeds + [deed]]
        found += [rest[:by] + [deed] + rest[by:] for by in range(len(deeds))]
    return found


class PaperTest(unittest.TestCase):
    def good(self, paper):
        self.assertIs(holds(paper), True, repr(paper)[:2000])

    def bad(self, paper):
        self.assertIs(holds(paper), False, repr(paper)[:2000])


class RoomPaperTest(PaperTest):
    def test_by_hand(self):
        self.assertEqual(room_paper(HALL), GOOD)
        self.good(GOOD)
        self.good(("rooms", HALL, [("cut", 0, 6), ("cut", 0, 4), ("cut", 0, 2), ("free", 1), ("free", 0)], 2, SORTS))
        self.good(("rooms", (2, [(0, 0, 2, True)], [(2, (5,))]), [("folded", 0), ("cut", 0, 1), ("free", 0)], 1,
                   [((10,), 1)]))

    def test_an_empty_hall(self):
        self.assertEqual(room_paper((0, [], [])), ("rooms", (0, [], []), [], 0, []))
        self.good(("rooms", (0, [], []), [], 0, []))
        self.bad(("rooms", (0, [], []), [("free", 0)], 0, []))
        self.bad(("rooms", (0, [], []), [], 1, []))
        self.bad(("rooms", (0, [], []), [], 0, [((1,), 0)]))
        self.bad(("rooms", (0, [], []), (), 0, []))
        self.bad(("rooms", (0, [], []), [], False, []))

    def test_papers_told(self):
        for hall in small_halls(3) + chance_halls(201, 200, 30, 6):
            paper = room_paper(hall)
            self.assertEqual(paper, ("rooms", hall, emptied(hall)) + counted(hall))
            self.assertEqual(paper[4], sorts_walked(hall))
            self.good(paper)

    def test_far_papers_told(self):
        for hall in far_halls(202, 10, 60, 6) + far_halls(203, 2, 62, 64) + [exchange([BIG + 7, BIG - 9], [1, 0])]:
            paper = room_paper(hall)
            self.assertEqual(paper[3:], counted(hall))
            self.good(paper)
            self.bad(paper[:3] + (paper[3] + 1, paper[4]))
            self.bad(paper[:2] + (paper[2][:-1],) + paper[3:])
            self.bad(paper[:2] + (paper[2] + [paper[2][-1]],) + paper[3:])

    def test_whoever_wrote_them(self):
        # Deeds found by chance go ahead of those that the program finds for what is left.
        chance = random.Random(204)
        many = 0
        for hall in chance_halls(205, 150, 20, 5) + far_halls(206, 15, 60, 6):
            deeds = some_deeds(chance, hall, 60)
            rest, sorts = done_one_behind_another(hall, deeds)
            paper = ("rooms", hall, deeds + emptied(rest)) + counted(hall)
            self.good(paper)
            many += paper[2] != emptied(hall)
        self.assertGreater(many, 60)

    def test_two_papers_of_one_hall_tell_the_same(self):
        chance = random.Random(207)
        for hall in chance_halls(208, 60, 12, 4):
            deeds = some_deeds(chance, hall, 30)
            number, sorts = counted_walked(hall, deeds + emptied(done_one_behind_another(hall, deeds)[0]))
            self.assertEqual((number, sorts), room_paper(hall)[3:])

    def test_deeds_left_out_doubled_or_put_elsewhere(self):
        told = []
        for hall in chance_halls(209, 60, 9, 4):
            paper = room_paper(hall)
            for deeds in other_orders(paper[2]):
                other = paper[:2] + (deeds,) + paper[3:]
                told.append(holds(other))
                self.assertIs(told[-1], holds_walked(other), other)
        self.assertGreater(told.count(False), 1000)
        self.assertGreater(told.count(True), 100)
        for deeds in other_orders(GOOD[2]):
            if deeds != GOOD[2]:
                self.bad(GOOD[:2] + (deeds,) + GOOD[3:])

    def test_numbers_bent(self):
        many = 0
        for hall in chance_halls(210, 40, 9, 3):
            for other in moved_by_one(room_paper(hall)):
                if other[3] < 0 or any(number < 0 for weights, number in other[4]):
                    self.bad(other)
                else:
                    self.assertIs(holds(other), holds_walked(other), other)
                    many += 1
        self.assertGreater(many, 1000)

    def test_other_rooms_told(self):
        self.bad(GOOD[:3] + (3, SORTS))
        self.bad(GOOD[:3] + (1, SORTS))
        self.bad(GOOD[:4] + (SORTS[::-1],))
        self.bad(GOOD[:4] + (SORTS[:1],))
        self.bad(GOOD[:4] + ([],))
        self.bad(GOOD[:4] + (SORTS + [((3, 3), 0)],))
        self.bad(GOOD[:4] + ([((2, 1), 1), ((2, 2), 2)],))
        self.bad(GOOD[:4] + ([((2, 1), 2)],))
        alike = (4, [], [(4, (1,))])
        self.good(("rooms", alike, [("free", 0)], 4, [((1,), 4)]))
        self.good(("rooms", alike, [("free", 2), ("free", 0)], 4, [((1,), 4)]))
        self.bad(("rooms", alike, [("free", 0)], 4, [((1,), 2), ((1,), 2)]))
        self.bad(("rooms", alike, [("free", 2)], 2, [((1,), 2)]))
        self.bad(("rooms", alike, [("free", 2)], 4, [((1,), 4)]))

    def test_other_kinds(self):
        one = ("rooms", (2, [(0, 1, 1, True)], [(1, (1, 0)), (1, (0, 1))]), [("cut", 0, 1), ("free", 0)], 1, [((1, 1), 1)])
        self.good(one)
        several = room_paper((9, [(0, 0, 3, True), (1, 2, 4, False), (0, 3, 6, False), (5, 8, 1, True)], [(9, (1,))]))
        self.good(several)
        for paper in (GOOD, one, several, room_paper((1, [], [(1, (1,))]))):
            for other in bent(paper):
                self.bad(other)

    def test_truths_in_the_place_of_numbers(self):
        paper = ("rooms", (1, [], [(1, (1,))]), [("free", 0)], 1, [((1,), 1)])
        self.good(paper)
        self.bad(("rooms", (True, [], [(1, (1,))]), [("free", 0)], 1, [((1,), 1)]))
        self.bad(("rooms", (1, [], [(True, (1,))]), [("free", 0)], 1, [((1,), 1)]))
        self.bad(("rooms", (1, [], [(1, (True,))]), [("free", 0)], 1, [((1,), 1)]))
        self.bad(("rooms", (1, [], [(1, (1,))]), [("free", False)], 1, [((1,), 1)]))
        self.bad(("rooms", (1, [], [(1, (1,))]), [("free", 0)], True, [((1,), 1)]))
        self.bad(("rooms", (1, [], [(1, (1,))]), [("free", 0)], 1, [((True,), 1)]))
        self.bad(("rooms", (1, [], [(1, (1,))]), [("free", 0)], 1, [((1,), True)]))
        self.bad(("rooms", (1, [], [(1, (1,))]), [["free", 0]], 1, [((1,), 1)]))
        self.bad(("rooms", (1, [], [(1, (1,))]), [("free", 0)], 1, [([1], 1)]))
        self.bad(("rooms", (1, [], [(1, (1,))]), [("free", 0)], 1, [[(1,), 1]]))

    def test_any_thing(self):
        for thing in ANY_THINGS:
            self.bad(thing)
            for at in range(5):
                if thing != GOOD[at]:
                    self.bad(GOOD[:at] + (thing,) + GOOD[at + 1:])
            self.bad(GOOD[:2] + ([thing] + GOOD[2],) + GOOD[3:])
            self.bad(GOOD[:2] + (GOOD[2] + [thing],) + GOOD[3:])
        for at in range(5):
            self.bad(GOOD[:at])
            self.bad(GOOD[:at] + GOOD[at + 1:])
        self.bad(GOOD + ([],))
        self.bad(list(GOOD))
        self.bad(("room",) + GOOD[1:])
        self.bad(("cords",) + GOOD[1:])
        self.bad(("Rooms",) + GOOD[1:])
        self.bad((["rooms"],) + GOOD[1:])

    def test_halls_of_any_size(self):
        n = 3000
        hall = (n, [(0, 0, 1, False)] * 200, [(n, (1,))])
        self.good(("rooms", hall, [("gone", 0)] * 200 + [("free", 0)], n, [((1,), n)]))
        self.bad(("rooms", hall, [("gone", 0)] * 199 + [("free", 0)], n, [((1,), n)]))


class CordPaperTest(PaperTest):
    def test_by_hand(self):
        self.good(GOOD_CORDS)
        self.assertNotEqual(cord_paper(SPHERE, [1, 1, 2])[3], GOOD_CORDS[3])
        self.good(cord_paper(SPHERE, [1, 1, 2]))
        self.good(("cords", TORUS, [0, 0, 0], [], []))

    def test_noughts(self):
        for sheet in NAMED:
            noughts = [0] * ties_of(sheet)
            self.assertEqual(cord_paper(sheet, noughts), ("cords", sheet, noughts, [], []))
            self.good(("cords", sheet, noughts, [], []))
            self.bad(("cords", sheet, noughts, [], [(noughts, 1)]))
            self.bad(("cords", sheet, noughts, [("free", 0)], []))

    def test_papers_told(self):
        for sheet in sheets_of_two()[::5]:
            for row in small_rows(sheet, 3):
                paper = cord_paper(sheet, row)
                self.assertEqual(paper, ("cords", sheet, row, emptied(hall_of(sheet, row)), cords_walked(sheet, row)))
                self.good(paper)

    def test_far_papers_told(self):
        chance = random.Random(211)
        for sheet in chance_sheets(212, 1):
            row = chance_row(chance, sheet, 10 * BIG)
            paper = cord_paper(sheet, row)
            self.assertEqual(paper[4], cords(sheet, row))
            self.good(paper)
            found, copies = paper[4][0]
            self.bad(paper[:4] + ([(found, copies + 1)] + paper[4][1:],))
            self.bad(paper[:4] + (paper[4][1:],))
            self.bad(paper[:4] + ([(tuple(found), copies)] + paper[4][1:],))
            self.bad(paper[:3] + (paper[3][:-1], paper[4]))
            for at in range(0, len(row), 5):
                other = row[:at] + [row[at] + 2] + row[at + 1:]
                self.assertIs(is_row(sheet, other), True)
                self.bad(paper[:2] + (other,) + paper[3:])
            self.good(room_paper(hall_of(sheet, row)))
            self.good(room_paper(gap_hall(sheet, row)))

    def test_whoever_wrote_them(self):
        chance = random.Random(213)
        for sheet in chance_sheets(214, 3, (2, 4, 6)):
            row = chance_row(chance, sheet, chance.choice((6, BIG)))
            hall = hall_of(sheet, row)
            deeds = some_deeds(chance, hall, 60)
            rest = done_one_behind_another(hall, deeds)[0]
            self.good(("cords", sheet, row, deeds + emptied(rest), cords(sheet, row)))

    def test_deeds_left_out_doubled_or_put_elsewhere(self):
        for sheet, row in ((SPHERE, [1, 1, 2]), (KLEIN, [2, 2, 2]), (FOLDED, [3, 4, 2]), (PROJECTIVE, [3, 0, 3])):
            paper = cord_paper(sheet, row)
            hall = hall_of(sheet, row)
            sorts = [(tuple(found), copies) for found, copies in paper[4]]
            for deeds in other_orders(paper[3]):
                number = sum(copies for found, copies in sorts)
                expected = holds_walked(("rooms", hall, deeds, number, sorts))
                self.assertIs(holds(paper[:3] + (deeds,) + paper[4:]), expected)

    def test_other_rows_and_sheets(self):
        paper = cord_paper(TORUS, [4, 6, 10])
        self.good(paper)
        self.bad(("cords", TORUS, [6, 4, 10]) + paper[3:])
        self.bad(("cords", TORUS, [4, 6, 11]) + paper[3:])
        self.bad(("cords", TORUS, [4, 6, 12]) + paper[3:])
        self.bad(("cords", TORUS, [4, 6]) + paper[3:])
        self.bad(("cords", KLEIN, [4, 6, 10]) + paper[3:])
        self.bad(("cords", TORUS + TORUS, [4, 6, 10]) + paper[3:])
        self.bad(("cords", [(1, 2, 3), (-1, -2, -4)], [4, 6, 10]) + paper[3:])
        self.bad(("rooms",) + paper[1:])

    def test_other_cords_told(self):
        paper = cord_paper(TORUS, [4, 6, 10])
        self.assertEqual(paper[4], [([2, 3, 5], 2)])
        for told in ([], [([2, 3, 5], 1)], [([2, 3, 5], 1)] * 2, [([4, 6, 10], 1)], [((2, 3, 5), 2)], [([2, 3, 5], 2, 0)],
                     [[[2, 3, 5], 2]], (([2, 3, 5], 2),), [([2, 3, 5], 2), ([0, 0, 0], 0)], [([2, 3], 2)], None):
            self.bad(paper[:4] + (told,))
        self.bad(GOOD_CORDS[:4] + (GOOD_CORDS[4][::-1],))

    def test_numbers_bent(self):
        for paper in (cord_paper(TORUS, [1, 1, 2]), GOOD_CORDS, cord_paper(TWO_PIECES, [2, 2, 2, 1, 0, 1])):
            for other in moved_by_one(paper):
                if other[1:3] == paper[1:3] and other[4] == paper[4]:
                    sorts = [(tuple(found), copies) for found, copies in paper[4]]
                    number = sum(copies for found, copies in sorts)
                    expected = holds_walked(("rooms", hall_of(*other[1:3]), other[3], number, sorts))
                    self.assertIs(holds(other), expected, other)
                else:
                    self.bad(other)

    def test_other_kinds(self):
        for paper in (GOOD_CORDS, cord_paper(TORUS, [1, 1, 2]), cord_paper(PROJECTIVE, [1, 0, 1])):
            for other in bent(paper):
                self.bad(other)

    def test_any_thing(self):
        for thing in ANY_THINGS:
            for at in range(5):
                self.bad(GOOD_CORDS[:at] + (thing,) + GOOD_CORDS[at + 1:])
        self.bad(GOOD_CORDS[:4])
        self.bad(GOOD_CORDS + ([],))
        self.bad(list(GOOD_CORDS))


if __name__ == "__main__":
    unittest.main()
