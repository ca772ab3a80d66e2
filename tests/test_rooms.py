"""Rooms and their sorts, walked: point 6."""

import unittest

from farcords.errors import TooMany
from farcords.rooms import rooms, sorts_walked
from tests.halls_made import chance_halls, small_halls
from tests.refusing import RefusingTest
from tests.walked import plain_weighing, room_sorts, rooms_of

BIG = 10 ** 60


class RoomsTest(RefusingTest):
    def test_no_place(self):
        self.assertEqual(rooms((0, [], [])), [])
        self.assertEqual(sorts_walked((0, [], [])), [])

    def test_no_pairing(self):
        hall = (3, [], [(2, (4, 1)), (1, (-1, 0))])
        self.assertEqual(rooms(hall), [[0], [1], [2]])
        self.assertEqual(sorts_walked(hall), [((-1, 0), 1), ((4, 1), 2)])

    def test_a_place_paired_with_itself(self):
        self.assertEqual(rooms((2, [(1, 1, 1, True), (0, 0, 2, False)], [(2, (1,))])), [[0], [1]])

    def test_rooms_by_their_least_places(self):
        hall = (8, [(0, 6, 2, True), (1, 4, 2, False)], [(4, (1, 0)), (4, (0, 1))])
        self.assertEqual(rooms(hall), [[0, 7], [1, 4, 6], [2, 5], [3]])
        self.assertEqual(sorts_walked(hall), [((1, 0), 1), ((1, 1), 2), ((1, 2), 1)])

    def test_led_over_many_places(self):
        self.assertEqual(rooms((7, [(0, 2, 5, False)], [(7, (1,))])), [[0, 2, 4, 6], [1, 3, 5]])
        self.assertEqual(sorts_walked((7, [(0, 2, 5, False)], [(7, (1,))])), [((3,), 1), ((4,), 1)])
        self.assertEqual(rooms((7, [(0, 2, 5, False), (0, 5, 2, False)], [(7, (1,))])), [[0, 1, 2, 3, 4, 5, 6]])
        self.assertEqual(rooms((6, [(4, 5, 1, False), (3, 4, 1, False), (2, 3, 1, True), (1, 2, 1, True)],
                                [(6, (1,))])), [[0], [1, 2, 3, 4, 5]])

    def test_turned_over_itself(self):
        self.assertEqual(rooms((5, [(0, 0, 5, True)], [(5, (1,))])), [[0, 4], [1, 3], [2]])
        self.assertEqual(sorts_walked((5, [(0, 0, 5, True)], [(5, (1,))])), [((1,), 1), ((2,), 2)])
        self.assertEqual(rooms((5, [(1, 2, 3, True)], [(5, (1,))])), [[0], [1, 4], [2, 3]])

    def test_weights_below_0_and_of_the_most_numbers(self):
        weights = tuple(range(-12, 12))
        hall = (4, [(0, 2, 1, False)], [(4, weights)])
        double = tuple(2 * weight for weight in weights)
        self.assertEqual(sorts_walked(hall), [(double, 1), (weights, 2)])

    def test_small_halls(self):
        for hall in small_halls(5):
            self.assertEqual(rooms(hall), rooms_of(hall[0], hall[1]), hall)
            self.assertEqual(sorts_walked(hall), room_sorts(hall), hall)

    def test_halls_of_some_pairings(self):
        for hall in chance_halls(63, 400, 40, 7):
            self.assertEqual(rooms(hall), rooms_of(hall[0], hall[1]), hall)
            self.assertEqual(sorts_walked(hall), room_sorts(hall), hall)

    def test_the_most_places_that_are_walked(self):
        hall = (2000, [(0, 7, 1993, False)], plain_weighing(2000))
        self.assertEqual(rooms(hall), [list(range(place, 2000, 7)) for place in range(7)])
        self.assertEqual(sorts_walked(hall), room_sorts(hall))
        alone = (2000, [], [(2000, (1,))])
        self.assertEqual(rooms(alone), [[place] for place in range(2000)])
        self.assertEqual(sorts_walked(alone), [((1,), 2000)])

    def test_as_many_pairings_as_there_may_be(self):
        hall = (2000, [(k, k + 1, 1000 + k, k % 3 == 0) for k in range(64)], plain_weighing(2000))
        self.assertEqual(rooms(hall), rooms_of(hall[0], hall[1]))

    def test_too_many(self):
        for hall in ((2001, [], [(2001, (1,))]), (2001, [(0, 1, 2000, False)], plain_weighing(2001)),
                     (BIG, [], [(BIG, (0,))]), (BIG, [(0, 1, BIG - 1, False)], plain_weighing(BIG)),
                     (100 * BIG - 1, [(5, 5, BIG, True)] * 64, plain_weighing(100 * BIG - 1))):
            self.refused(TooMany, rooms, hall)
            self.refused(TooMany, sorts_walked, hall)


if __name__ == "__main__":
    unittest.main()
