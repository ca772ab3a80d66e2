"""Deeds: points 7 and 8."""

import unittest

from farcords.deeds import deed_done
from farcords.errors import NoDeed
from farcords.halls import is_hall
from tests.deeds_walked import deed_walked, formed_deeds, is_turn
from tests.halls_made import chance_halls, far_halls, small_halls
from tests.refusing import RefusingTest
from tests.walked import (
    binary_weighing, plain_weighing, room_sorts, room_weights, rooms_of, small_pairings, tallied, together_sorts,
)

BIG = 10 ** 60


def flat(n):
    """A weighing of n places that are all alike."""
    return [(n, (1,))] if n else []


class DeedTest(RefusingTest):
    def done(self, n, pairings, deed, n_then, pairings_then):
        """The deed, done in a hall whose weights it does not move."""
        told = deed_done((n, pairings, flat(n)), deed)
        self.assertEqual(told, ((n_then, pairings_then, flat(n_then)), []))
        self.assertIs(is_hall(told[0]), True)

    def no_deed(self, n, pairings, deed):
        self.refused(NoDeed, deed_done, (n, pairings, plain_weighing(n)), deed)


class GoneTest(DeedTest):
    def test_gone(self):
        others = [(0, 1, 4, True), (2, 2, 3, True)]
        self.done(9, [(3, 3, 5, False)] + others, ("gone", 0), 9, others)
        self.done(9, others[:1] + [(3, 3, 1, True)] + others[1:], ("gone", 1), 9, others)
        self.done(9, others + [(3, 3, 1, False)], ("gone", 2), 9, others)
        self.done(1, [(0, 0, 1, True)], ("gone", 0), 1, [])
        self.done(BIG, [(5, 5, BIG - 5, False)], ("gone", 0), BIG, [])

    def test_not_gone(self):
        self.no_deed(9, [(3, 3, 2, True)], ("gone", 0))
        self.no_deed(9, [(3, 4, 2, False)], ("gone", 0))
        self.no_deed(9, [(3, 4, 1, True)], ("gone", 0))
        self.no_deed(BIG, [(0, 0, BIG, True)], ("gone", 0))


class FoldedTest(DeedTest):
    def test_folded(self):
        self.done(9, [(1, 1, 5, True)], ("folded", 0), 9, [(1, 4, 2, True)])
        self.done(9, [(1, 1, 6, True)], ("folded", 0), 9, [(1, 4, 3, True)])
        self.done(9, [(1, 1, 2, True)], ("folded", 0), 9, [(1, 2, 1, True)])
        self.done(9, [(0, 3, 5, True)], ("folded", 0), 9, [(0, 4, 4, True)])
        self.done(9, [(0, 3, 4, True)], ("folded", 0), 9, [(0, 4, 3, True)])
        self.done(9, [(0, 1, 1, False), (0, 2, 3, True), (4, 4, 1, True)], ("folded", 1), 9,
                  [(0, 1, 1, False), (0, 3, 2, True), (4, 4, 1, True)])

    def test_far_ones(self):
        self.done(BIG, [(0, 0, BIG, True)], ("folded", 0), BIG, [(0, BIG // 2, BIG // 2, True)])
        self.done(BIG, [(0, 0, BIG - 1, True)], ("folded", 0), BIG, [(0, BIG // 2, BIG // 2 - 1, True)])
        self.done(3 * BIG, [(7, BIG, 2 * BIG, True)], ("folded", 0), 3 * BIG,
                  [(7, 3 * BIG // 2 + 4, 3 * BIG // 2 - 4, True)])

    def test_not_folded(self):
        self.no_deed(9, [(1, 1, 1, True)], ("folded", 0))
        self.no_deed(9, [(1, 1, 5, False)], ("folded", 0))
        self.no_deed(9, [(1, 3, 5, False)], ("folded", 0))
        self.no_deed(9, [(1, 4, 3, True)], ("folded", 0))
        self.no_deed(9, [(1, 5, 3, True)], ("folded", 0))
        self.no_deed(9, [(1, 2, 1, True)], ("folded", 0))
        self.no_deed(2 * BIG, [(0, BIG, BIG, True)], ("folded", 0))


class JoinedTest(DeedTest):
    def test_joined(self):
        self.done(20, [(0, 4, 10, False), (2, 8, 12, False)], ("joined", 0, 1), 20, [(0, 2, 18, False)])
        self.done(20, [(2, 8, 12, False), (0, 4, 10, False)], ("joined", 0, 1), 20, [(0, 2, 18, False)])
        self.done(9, [(0, 3, 6, False), (0, 3, 6, False)], ("joined", 0, 1), 9, [(0, 3, 6, False)])
        self.done(9, [(0, 1, 8, False), (3, 5, 2, False)], ("joined", 0, 1), 9, [(0, 1, 8, False)])

    def test_the_others_stay_in_order(self):
        a, b, c = (0, 8, 1, True), (1, 1, 2, True), (0, 5, 2, False)
        self.done(9, [a, (0, 3, 6, False), b, (0, 2, 7, False), c], ("joined", 1, 3), 9, [a, (0, 1, 8, False), b, c])

    def test_just_enough_shared_places(self):
        # Reaches 0 to 11 and 5 to 14: seven places shared, shifts 3 and 4.
        self.done(15, [(0, 3, 9, False), (5, 9, 6, False)], ("joined", 0, 1), 15, [(0, 1, 14, False)])
        self.no_deed(15, [(0, 3, 8, False), (5, 9, 6, False)], ("joined", 0, 1))
        self.no_deed(15, [(0, 3, 9, False), (6, 10, 5, False)], ("joined", 0, 1))

    def test_far_ones(self):
        self.done(10 * BIG, [(0, 6 * 7, 5 * BIG, False), (BIG, BIG + 6 * 11, 8 * BIG, False)], ("joined", 0, 1),
                  10 * BIG, [(0, 6, 9 * BIG + 60, False)])
        one, other = 2 * BIG, 3 * BIG
        self.done(9 * BIG, [(0, one, 5 * BIG, False), (BIG, BIG + other, 5 * BIG, False)], ("joined", 0, 1),
                  9 * BIG, [(0, BIG, 8 * BIG, False)])
        self.no_deed(9 * BIG, [(0, one, 4 * BIG - 1, False), (BIG, BIG + other, 5 * BIG, False)], ("joined", 0, 1))

    def test_not_joined(self):
        turns = [(0, 3, 9, False), (0, 2, 9, False)]
        self.no_deed(12, turns, ("joined", 1, 0))
        self.no_deed(12, turns, ("joined", 0, 0))
        self.no_deed(12, turns, ("joined", 1, 1))
        self.no_deed(12, [(0, 3, 9, True), (0, 2, 9, False)], ("joined", 0, 1))
        self.no_deed(12, [(0, 3, 9, False), (0, 2, 9, True)], ("joined", 0, 1))
        self.no_deed(12, [(0, 0, 12, False), (0, 2, 9, False)], ("joined", 0, 1))
        self.no_deed(12, [(0, 2, 9, False), (0, 7, 5, False)], ("joined", 0, 1))
        self.no_deed(12, [(0, 1, 2, False), (6, 7, 2, False)], ("joined", 0, 1))

    def test_all_small_turns(self):
        turns = [pairing for pairing in small_pairings(9, 9) if is_turn(pairing)]
        found = 0
        for one in turns:
            for other in turns:
                hall = (9, [one, other], plain_weighing(9))
                then = deed_walked(hall, ("joined", 0, 1))
                if then is None:
                    self.refused(NoDeed, deed_done, hall, ("joined", 0, 1))
                else:
                    found += 1
                    self.assertEqual(deed_done(hall, ("joined", 0, 1)), then)
                    self.assertEqual(rooms_of(9, then[0][1]), rooms_of(9, hall[1]))
        self.assertGreater(found, 100)


class CarriedTest(DeedTest):
    def test_by_one_that_is_not_turned(self):
        j = (1, 11, 4, False)
        self.done(20, [j, (3, 12, 2, False)], ("carried", 0, 1, "high"), 20, [j, (2, 3, 2, False)])
        self.done(20, [j, (0, 12, 2, True)], ("carried", 0, 1, "high"), 20, [j, (0, 2, 2, True)])
        self.done(20, [(12, 13, 2, True), j], ("carried", 1, 0, "low"), 20, [(2, 13, 2, True), j])
        self.done(20, [(12, 13, 2, True), j], ("carried", 1, 0, "high"), 20, [(3, 12, 2, True), j])

    def test_as_often_as_it_fits(self):
        j = (2, 5, 15, False)
        for begin in range(5, 19):
            lower = 2 + (begin - 2) % 3
            self.done(20, [j, (0, begin, 1, True)], ("carried", 0, 1, "high"), 20, [j, (0, lower, 1, True)])
        self.done(20, [j, (0, 5, 15, False)], ("carried", 0, 1, "high"), 20, [j, (0, 2, 15, False)])
        self.done(20, [j, (0, 8, 12, False)], ("carried", 0, 1, "high"), 20, [j, (0, 2, 12, False)])
        self.done(20, [j, (0, 9, 10, False)], ("carried", 0, 1, "high"), 20, [j, (0, 3, 10, False)])

    def test_by_one_that_is_turned(self):
        j = (1, 11, 4, True)
        self.done(20, [j, (0, 11, 4, False)], ("carried", 0, 1, "high"), 20, [j, (0, 1, 4, True)])
        self.done(20, [j, (0, 12, 2, False)], ("carried", 0, 1, "high"), 20, [j, (0, 2, 2, True)])
        self.done(20, [j, (0, 12, 3, True)], ("carried", 0, 1, "high"), 20, [j, (0, 1, 3, False)])
        self.done(20, [j, (11, 12, 1, True)], ("carried", 0, 1, "low"), 20, [j, (4, 12, 1, False)])
        self.done(8, [(0, 4, 4, True), (4, 4, 4, True)], ("carried", 0, 1, "low"), 8, [(0, 4, 4, True), (0, 4, 4, False)])
        self.done(8, [(0, 4, 4, True), (0, 4, 4, True)], ("carried", 0, 1, "high"), 8,
                  [(0, 4, 4, True), (0, 0, 4, False)])

    def test_the_lesser_begin_is_low(self):
        j = (0, 5, 5, False)
        self.done(10, [j, (3, 9, 1, False)], ("carried", 0, 1, "high"), 10, [j, (3, 4, 1, False)])
        self.done(10, [j, (4, 8, 1, False)], ("carried", 0, 1, "high"), 10, [j, (3, 4, 1, False)])
        self.done(10, [j, (4, 9, 1, False)], ("carried", 0, 1, "high"), 10, [j, (4, 4, 1, False)])

    def test_far_ones(self):
        j = (3, 10, BIG, False)
        self.done(2 * BIG, [j, (0, 10 + 7 * (BIG // 8) + 5, 9, True)], ("carried", 0, 1, "high"),
                  2 * BIG, [j, (0, 3 + 5, 9, True)])
        j = (0, BIG, BIG, True)
        self.done(2 * BIG, [j, (5, BIG + 5, BIG - 6, True)], ("carried", 0, 1, "high"),
                  2 * BIG, [j, (1, 5, BIG - 6, False)])

    def test_not_carried(self):
        j = (0, 5, 5, False)
        for k in ((0, 4, 5, False), (0, 4, 2, True), (0, 9, 2, False), (0, 10, 1, False), (0, 4, 7, False)):
            self.no_deed(12, [j, k], ("carried", 0, 1, "high"))
            self.no_deed(12, [j, k], ("carried", 0, 1, "low"))
        self.no_deed(12, [j, (0, 6, 2, False)], ("carried", 0, 1, "low"))
        self.no_deed(12, [j, (6, 6, 2, False)], ("carried", 0, 0, "high"))
        self.no_deed(12, [j], ("carried", 0, 0, "high"))

    def test_not_by_such(self):
        for j in ((5, 5, 5, False), (5, 5, 5, True), (1, 5, 5, True), (4, 5, 2, True), (5, 5, 1, True)):
            self.no_deed(12, [j, (0, 5, 1, False)], ("carried", 0, 1, "high"))


class CutTest(DeedTest):
    def test_in_one_step(self):
        weighing = [(2, (1, 0)), (2, (0, 1)), (3, (5, 0)), (3, (0, 7))]
        self.assertEqual(deed_done((10, [(1, 6, 4, False)], weighing), ("cut", 0, 8)), (
            (8, [(1, 6, 2, False)], [(2, (1, 0)), (1, (0, 1)), (1, (0, 8)), (1, (5, 7)), (2, (5, 0)), (1, (0, 7))]), []))
        self.assertEqual(deed_done((10, [(1, 6, 4, True)], weighing), ("cut", 0, 8)), (
            (8, [(3, 6, 2, True)], [(1, (1, 0)), (1, (1, 7)), (1, (0, 8)), (1, (0, 1)), (3, (5, 0)), (1, (0, 7))]), []))

    def test_taken_out_where_nothing_is_left(self):
        others = [(0, 1, 3, True), (2, 2, 2, True)]
        for turned in (False, True):
            hall = (10, others[:1] + [(1, 6, 4, turned)] + others[1:], [(10, (1,))])
            self.assertEqual(deed_done(hall, ("cut", 1, 6)), ((6, others, [(1, (1,)), (4, (2,)), (1, (1,))]), []))

    def test_in_as_many_steps_as_it_needs(self):
        hall = (11, [(1, 4, 7, False)], [(1, (10 ** place,)) for place in range(11)])
        self.assertEqual(deed_done(hall, ("cut", 0, 4)), (
            (4, [], [(1, (1,)), (1, (10010010010,)), (1, (100100100,)), (1, (1001001000,))]), []))
        self.assertEqual(deed_done(hall, ("cut", 0, 6)), (
            (6, [(1, 4, 2, False)], [(1, (1,)), (1, (10,)), (1, (100,)), (1, (1001001000,)), (1, (10010010000,)),
                                     (1, (100100000,))]), []))
        self.assertEqual(deed_done(hall, ("cut", 0, 10))[0][:2], (10, [(1, 4, 6, False)]))

    def test_far_ones(self):
        n = 7 * BIG + 3
        self.assertEqual(deed_done((n, [(0, 7, n - 7, False)], [(n, (1, 2))]), ("cut", 0, 7)), (
            (7, [], [(3, (BIG + 1, 2 * BIG + 2)), (4, (BIG, 2 * BIG))]), []))
        self.assertEqual(deed_done((2 * BIG, [(0, BIG, BIG, True)], [(BIG, (1,)), (1, (5,)), (BIG - 1, (0,))]),
                                   ("cut", 0, BIG)), ((BIG, [], [(BIG - 1, (1,)), (1, (6,))]), []))
        self.assertEqual(deed_done((2 * BIG, [(0, BIG, BIG, False)], [(BIG, (1,)), (1, (5,)), (BIG - 1, (0,))]),
                                   ("cut", 0, BIG + 1)), (
            (BIG + 1, [(0, BIG, 1, False)], [(BIG, (1,)), (1, (5,))]), []))

    def test_not_cut(self):
        for turned in (False, True):
            j = (1, 6, 4, turned)
            for end in (0, 1, 5, 10, 11):
                self.no_deed(10, [j], ("cut", 0, end))
            self.no_deed(11, [j], ("cut", 0, 8))
            self.no_deed(10, [j, (0, 7, 2, False)], ("cut", 0, 8))
            self.no_deed(10, [(0, 7, 2, True), j], ("cut", 1, 8))
            self.no_deed(10, [j, j], ("cut", 0, 9))
            self.no_deed(10, [j, (0, 0, 9, False)], ("cut", 0, 8))
            self.assertEqual(deed_done((10, [j, (0, 0, 8, False)], flat(10)), ("cut", 0, 8))[0][0], 8)

    def test_not_by_such(self):
        for j in ((6, 6, 4, False), (6, 6, 4, True), (4, 6, 4, True), (9, 9, 1, True), (9, 9, 1, False)):
            for end in range(10):
                self.no_deed(10, [j], ("cut", 0, end))


class FreeTest(DeedTest):
    def test_free(self):
        weighing = [(2, (5, 5)), (2, (1, 0)), (1, (0, 9)), (1, (1, 0))]
        self.assertEqual(deed_done((6, [(0, 1, 1, False)], weighing), ("free", 2)), (
            (2, [(0, 1, 1, False)], [(2, (5, 5))]), [((0, 9), 1), ((1, 0), 3)]))
        self.assertEqual(deed_done((6, [(0, 1, 1, False)], weighing), ("free", 5)), (
            (5, [(0, 1, 1, False)], weighing[:3]), [((1, 0), 1)]))
        self.assertEqual(deed_done((6, [], weighing), ("free", 0)), (
            (0, [], []), [((0, 9), 1), ((1, 0), 3), ((5, 5), 2)]))

    def test_far_ones(self):
        self.assertEqual(deed_done((3 * BIG, [(0, 1, BIG, True)], [(2 * BIG, (1,)), (BIG, (-4,))]), ("free", BIG + 1)), (
            (BIG + 1, [(0, 1, BIG, True)], [(BIG + 1, (1,))]), [((-4,), BIG), ((1,), BIG - 1)]))

    def test_not_free(self):
        self.no_deed(6, [(0, 1, 1, False)], ("free", 1))
        self.no_deed(6, [(0, 1, 1, False)], ("free", 0))
        self.no_deed(6, [(0, 1, 1, False)], ("free", 6))
        self.no_deed(6, [(0, 1, 1, False)], ("free", 7))
        self.no_deed(6, [(3, 3, 2, True), (0, 0, 1, True)], ("free", 4))
        self.no_deed(0, [], ("free", 0))
        self.no_deed(BIG, [(0, 1, BIG - 1, False)], ("free", BIG - 1))


class NoDeedTest(DeedTest):
    PAIRINGS = [(0, 0, 9, False), (0, 3, 6, False), (0, 2, 7, False), (0, 0, 4, True), (0, 10, 2, False),
                (4, 5, 2, True)]

    def test_the_hall_of_these_tests_has_deeds(self):
        hall = (14, self.PAIRINGS, plain_weighing(14))
        for deed in (("gone", 0), ("folded", 3), ("joined", 1, 2), ("carried", 1, 5, "high"), ("free", 12)):
            self.assertEqual(deed_done(hall, deed), deed_walked(hall, deed))
        then = deed_done(hall, ("free", 12))[0]
        self.assertEqual(deed_done(then, ("cut", 4, 11)), deed_walked(then, ("cut", 4, 11)))

    def test_wrong_numbers(self):
        for number in (True, False, None, "0", "", "low", [0], (0,), (), [], -1, 6, BIG, -BIG):
            for deed in (("gone", number), ("folded", number), ("joined", 1, number), ("joined", number, 2),
                         ("carried", 1, number, "high"), ("carried", number, 5, "low"), ("cut", number, 13)):
                self.no_deed(14, self.PAIRINGS, deed)
        for end in (True, False, None, "12", [12], (12,), -1, -2, 14, BIG, 11, 0):
            self.no_deed(14, self.PAIRINGS, ("free", end))

    def test_truths_are_no_numbers(self):
        self.no_deed(9, [(3, 3, 5, False), (3, 3, 5, False)], ("gone", False))
        self.no_deed(9, [(3, 3, 5, False), (3, 3, 5, False)], ("gone", True))
        self.no_deed(9, [(3, 3, 5, True), (3, 3, 5, True)], ("folded", True))
        self.no_deed(9, [(0, 3, 6, False), (0, 3, 6, False)], ("joined", False, True))
        self.no_deed(9, [(0, 3, 6, False), (0, 3, 6, False)], ("carried", False, True, "high"))
        self.no_deed(2, [(0, 1, 1, False)], ("cut", False, 1))
        self.no_deed(2, [(0, 1, 1, False)], ("cut", 0, True))
        self.no_deed(2, [], ("free", True))
        self.no_deed(2, [], ("free", False))

    def test_wrong_sides(self):
        for side in (None, True, 0, 1, "", "l", "Low", "high ", "lowhigh", ["high"], ("high",), [], ()):
            self.no_deed(9, [(0, 3, 6, False), (0, 3, 6, False)], ("carried", 0, 1, side))

    def test_numbers_from_the_end_are_none(self):
        self.no_deed(9, [(3, 3, 5, False), (3, 3, 5, False)], ("gone", -1))
        self.no_deed(9, [(3, 3, 5, True)], ("folded", -1))
        self.no_deed(9, [(0, 3, 6, False), (0, 3, 6, False)], ("joined", -2, -1))
        self.no_deed(9, [(0, 3, 6, False), (0, 3, 6, False)], ("carried", -2, -1, "high"))
        self.no_deed(9, [(0, 3, 6, False)], ("cut", -1, 5))
        self.no_deed(9, [], ("free", -1))

    def test_wrong_forms(self):
        for deed in (None, True, False, 0, 1, "", "gone", "free", [], (), ["gone", 0], ["free", 12], [("gone", 0)],
                     (("gone", 0),), ("gone",), ("gone", 0, 0), ("gone", 0, None), ("folded",), ("folded", 3, 3),
                     ("joined", 1), ("joined", 1, 2, 2), ("joined", (1, 2)), ("carried", 1, 5), ("carried", 1, "high"),
                     ("carried", 1, 5, "high", "high"), ("cut", 4), ("cut", 13), ("cut", 4, 13, 13), ("free",),
                     ("free", 12, 12), (0, "gone"), ("GONE", 0), ("gone ", 0), ("", 0), ("go", 0), (None, 0), (0, 0),
                     (True, 0), (["gone"], 0), (("gone",), 0), ([], 0), ((), 0), ("gone", [0]), ("carried",),
                     ("pairing", 0), ("done", 0), ([[[[[]]]]], 0), ("free", (((((12,),),),),))):
            self.no_deed(14, self.PAIRINGS, deed)

    def test_a_hall_of_no_place_has_no_deed(self):
        for deed in formed_deeds((0, [], [])) + [None, (), ("gone", 0), ("free", 0)]:
            self.no_deed(0, [], deed)


class EveryDeedTest(DeedTest):
    def held(self, hall):
        """Each deed of the hall against the walk, and the rooms behind it against those ahead of it."""
        words = []
        for deed in formed_deeds(hall):
            then = deed_walked(hall, deed)
            if then is None:
                with self.assertRaises(NoDeed, msg=(hall, deed)):
                    deed_done(hall, deed)
            else:
                words.append(deed[0])
                told = deed_done(hall, deed)
                self.assertEqual(repr(told), repr(then), (hall, deed))
                self.rooms_kept(hall, told, deed)
        return words

    def rooms_kept(self, hall, told, deed):
        then, counted = told
        self.assertIs(is_hall(then), True, (hall, deed))
        ahead = [[place for place in room if place < then[0]] for room in rooms_of(hall[0], hall[1])]
        self.assertEqual(rooms_of(then[0], then[1]), [room for room in ahead if room], (hall, deed))
        weighed = room_weights(hall)
        lost = tallied([weights for room, weights in zip(ahead, weighed) if not room])
        self.assertEqual(counted, lost, (hall, deed))
        self.assertEqual(room_weights(then), [weights for room, weights in zip(ahead, weighed) if room], (hall, deed))
        self.assertEqual(together_sorts([room_sorts(then), counted]), room_sorts(hall), (hall, deed))

    def test_small_halls(self):
        words = []
        for hall in small_halls(4):
            words += self.held(hall)
        for word in ("gone", "folded", "joined", "carried", "cut", "free"):
            self.assertGreater(words.count(word), 20, word)

    def test_halls_of_some_pairings(self):
        words = []
        for hall in chance_halls(71, 300, 12, 4):
            words += self.held(hall)
            words += self.held((hall[0], hall[1], binary_weighing(hall[0])))
        for word in ("gone", "folded", "joined", "carried", "cut", "free"):
            self.assertGreater(words.count(word), 10, word)

    def test_far_halls_are_halls_behind_each_deed(self):
        words = []
        for hall in far_halls(72, 6, 60, 12):
            for j in range(12):
                for deed in [("gone", j), ("folded", j)] + [("carried", j, k, side) for k in range(12)
                                                            for side in ("low", "high")]:
                    try:
                        then, counted = deed_done(hall, deed)
                    except NoDeed:
                        continue
                    words.append(deed[0])
                    self.assertIs(is_hall(then), True)
                    self.assertEqual(counted, [])
                    self.assertEqual((then[0], then[2]), (hall[0], hall[2]))
        self.assertIn("carried", words)
        self.assertIn("folded", words)


if __name__ == "__main__":
    unittest.main()
