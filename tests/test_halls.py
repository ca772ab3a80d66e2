"""Halls: the first sentence of point 6."""

import unittest

from farcords.halls import is_hall
from tests.halls_made import chance_halls, far_halls, small_halls
from tests.walked import plain_weighing

BIG = 10 ** 61
GOOD = (6, [(0, 3, 3, False), (1, 1, 2, True)], [(2, (1, 0)), (4, (0, -7))])


class IsHallTest(unittest.TestCase):
    def well(self, thing):
        self.assertIs(is_hall(thing), True, repr(thing))

    def none(self, thing):
        self.assertIs(is_hall(thing), False, repr(thing))

    def test_halls(self):
        self.well(GOOD)
        self.well((1, [], [(1, (0,))]))
        self.well((1, [(0, 0, 1, True)], [(1, (-1,) * 24)]))
        self.well((5, [(0, 3, 2, False)] * 3, [(5, (2, 2))]))

    def test_the_hall_of_no_place(self):
        self.well((0, [], []))
        self.none((0, [], [(1, (0,))]))
        self.none((0, [(0, 0, 1, False)], []))

    def test_small_halls(self):
        for hall in small_halls(3) + chance_halls(61, 200, 12, 6):
            self.well(hall)

    def test_far_halls(self):
        self.well((BIG, [(0, 1, BIG - 1, False)], [(BIG, (1,))]))
        self.none((BIG, [(0, 2, BIG - 1, False)], [(BIG, (1,))]))
        self.none((BIG, [(0, 1, BIG - 1, False)], [(BIG - 1, (1,))]))
        self.none((BIG, [(0, 1, BIG - 1, False)], [(BIG, (1,)), (1, (2,))]))
        for hall in far_halls(62, 5, 62, 64):
            self.well(hall)

    def test_one_of_any_size(self):
        self.well((10 ** 100, [(0, 5, 10 ** 99, True)], [(10 ** 100, (1,))]))
        self.well((9, [(1, 4, 3, True)] * 90, [(1, (k % 2,)) for k in range(9)]))
        self.well((50, [], [(1, (k % 2,)) for k in range(50)]))

    def test_places_of_pairings_are_below_n(self):
        for n in range(1, 8):
            for low in range(n):
                for high in range(low, n):
                    for long in range(1, n + 2):
                        for turned in (False, True):
                            hall = (n, [(0, 0, 1, False), (low, high, long, turned)], plain_weighing(n))
                            self.assertIs(is_hall(hall), high + long <= n, hall)

    def test_the_weighing_is_of_length_n(self):
        for n in range(8):
            for many in range(8):
                self.assertIs(is_hall((n, [], plain_weighing(many))), n == many)

    def test_wrong_numbers_of_places(self):
        for n in (None, True, False, "6", "", [6], (6,), -6, 5, 7):
            self.none((n, GOOD[1], GOOD[2]))
        self.none((True, [], [(1, (0,))]))
        self.none((False, [], []))
        self.none((-1, [], []))

    def test_wrong_pairings(self):
        for pairings in (None, 0, "", (), tuple(GOOD[1]), [None], [()], [[0, 3, 3, False]], [(3, 0, 3, False)],
                         [(0, 3, 0, False)], [(0, 3, 3, 0)], [(0, 3, 3)], [(0, True, 3, False)], GOOD[1] + [None],
                         [GOOD[1]], (0, 3, 3, False), [(-1, 3, 3, False)]):
            self.none((6, pairings, GOOD[2]))

    def test_wrong_weighings(self):
        for weighing in (None, 6, "", (), tuple(GOOD[2]), [(2, (1, 0)), (4, (0,))], [(2, (1, 0)), (4, (1, 0))],
                         [(2, (1, 0)), [4, (0, -7)]], [(6, ())], [(6, (0,) * 25)], [(6, (True,))], [(6, [1])],
                         [(2, (1, 0)), (0, (2, 2)), (4, (0, -7))], [(6,)], (6, (0,)), [GOOD[2]]):
            self.none((6, GOOD[1], weighing))

    def test_wrong_wholes(self):
        for thing in (None, True, False, 0, 6, "", "hall", [], (), list(GOOD), GOOD[:2], GOOD + (0,), (GOOD,), [GOOD],
                      (GOOD[1], 6, GOOD[2]), (6, GOOD[2], GOOD[1]), (0, [], [], []), (0, []), ((), (), ())):
            self.none(thing)


if __name__ == "__main__":
    unittest.main()
