"""Pairings: point 5."""

import unittest

from farcords import pairings
from farcords.pairings import back, behind, forth, is_pairing, is_turn, paired, partners, short
from tests.walked import pairing_of, pairs, small_pairings, unordered

BIG = 10 ** 61


class IsPairingTest(unittest.TestCase):
    def well(self, thing):
        self.assertIs(is_pairing(thing), True, repr(thing))

    def none(self, thing):
        self.assertIs(is_pairing(thing), False, repr(thing))

    def test_pairings(self):
        self.well((0, 0, 1, False))
        self.well((0, 0, 1, True))
        self.well((3, 3, 9, True))
        self.well((0, 5, 9, False))
        self.well((1, 2, 1, True))
        self.well((BIG, BIG + 1, BIG, False))
        self.well((10 ** 100, 10 ** 100, 10 ** 100, True))

    def test_small_ones(self):
        for low in range(-2, 4):
            for high in range(-2, 4):
                for long in range(-2, 3):
                    for turned in (False, True):
                        thing = (low, high, long, turned)
                        self.assertIs(is_pairing(thing), 0 <= low <= high and long >= 1, thing)

    def test_low_above_high(self):
        self.none((1, 0, 1, False))
        self.none((BIG + 1, BIG, 1, True))

    def test_wrong_kinds_in_each_place(self):
        good = (1, 1, 1, True)
        for at in range(3):
            for thing in (True, False, None, "", "1", [], [1], (), (1,), -1, -BIG):
                self.none(good[:at] + (thing,) + good[at + 1:])
        for thing in (0, 1, -1, 2, None, "", "True", [], [True], (), (True,)):
            self.none((1, 1, 1, thing))

    def test_a_long_of_0(self):
        self.none((0, 0, 0, False))
        self.none((0, 5, 0, True))

    def test_wrong_wholes(self):
        for thing in (None, True, False, 0, 5, "", "abcd", [], [0, 5, 2, False], (), (0,), (0, 5), (0, 5, 2),
                      (0, 5, 2, False, False), (0, 5, 2, 3, False), ((0, 5, 2, False),), [(0, 5, 2, False)]):
            self.none(thing)


class PairedTest(unittest.TestCase):
    def test_begins_in_either_order(self):
        for turned in (False, True):
            self.assertEqual(paired(3, 8, 4, turned), (3, 8, 4, turned))
            self.assertEqual(paired(8, 3, 4, turned), (3, 8, 4, turned))
            self.assertEqual(paired(5, 5, 4, turned), (5, 5, 4, turned))
            self.assertEqual(paired(BIG, 0, BIG, turned), (0, BIG, BIG, turned))

    def test_told_is_a_pairing(self):
        for told in (paired(3, 8, 4, True), paired(8, 3, 4, False), paired(0, 0, 1, True)):
            self.assertIs(is_pairing(told), True)


class LedTest(unittest.TestCase):
    def places(self, pairing, lead):
        return [lead(pairing, place) for place in range(12)]

    def test_apart(self):
        none = None
        self.assertEqual(self.places((1, 7, 3, False), forth),
                         [none, 7, 8, 9, none, none, none, none, none, none, none, none])
        self.assertEqual(self.places((1, 7, 3, False), back),
                         [none, none, none, none, none, none, none, 1, 2, 3, none, none])
        self.assertEqual(self.places((1, 7, 3, True), forth),
                         [none, 9, 8, 7, none, none, none, none, none, none, none, none])
        self.assertEqual(self.places((1, 7, 3, True), back),
                         [none, none, none, none, none, none, none, 3, 2, 1, none, none])

    def test_overlapping(self):
        none = None
        self.assertEqual(self.places((1, 3, 5, False), forth),
                         [none, 3, 4, 5, 6, 7, none, none, none, none, none, none])
        self.assertEqual(self.places((1, 3, 5, True), back),
                         [none, none, none, 5, 4, 3, 2, 1, none, none, none, none])

    def test_partners_of_stretches_that_lie_apart(self):
        for turned in (False, True):
            self.assertEqual([len(partners((1, 7, 3, turned), place)) for place in range(12)],
                             [0, 1, 1, 1, 0, 0, 0, 1, 1, 1, 0, 0])
        self.assertEqual(partners((1, 7, 3, False), 2), [8])
        self.assertEqual(partners((1, 7, 3, True), 1), [9])
        self.assertEqual(partners((1, 7, 3, True), 7), [3])

    def test_partners_beside_one_another(self):
        self.assertEqual([partners((0, 2, 2, False), place) for place in range(5)], [[2], [3], [0], [1], []])
        self.assertEqual([partners((0, 2, 2, True), place) for place in range(5)], [[3], [2], [1], [0], []])

    def test_partners_overlapping(self):
        self.assertEqual([partners((0, 2, 4, False), place) for place in range(7)],
                         [[2], [3], [0, 4], [1, 5], [2], [3], []])
        self.assertEqual([partners((0, 1, 3, True), place) for place in range(5)], [[3], [2], [1], [0], []])

    def test_partners_rise(self):
        self.assertEqual([partners((0, 3, 30, False), place) for place in range(3, 30)],
                         [[place - 3, place + 3] for place in range(3, 30)])
        self.assertEqual(partners((0, BIG, 2 * BIG, False), BIG + 8), [8, 2 * BIG + 8])

    def test_partners_of_one_stretch(self):
        self.assertEqual([partners((2, 2, 3, False), place) for place in range(6)], [[], [], [2], [3], [4], []])
        self.assertEqual([partners((2, 2, 3, True), place) for place in range(6)], [[], [], [4], [3], [2], []])
        self.assertEqual(partners((5, 5, 1, True), 5), [5])

    def test_its_own_partner(self):
        self.assertEqual(forth((0, 2, 5, True), 3), 3)
        self.assertEqual(back((0, 2, 5, True), 3), 3)
        self.assertEqual(partners((0, 2, 5, True), 3), [3])

    def test_far_places(self):
        pairing = (BIG, 3 * BIG, BIG, True)
        self.assertEqual(forth(pairing, BIG), 4 * BIG - 1)
        self.assertEqual(forth(pairing, 2 * BIG - 1), 3 * BIG)
        self.assertEqual(back(pairing, 4 * BIG - 1), BIG)
        self.assertEqual(partners(pairing, 3 * BIG + 5), [2 * BIG - 6])
        for place in (BIG - 1, 2 * BIG, 3 * BIG - 1, 4 * BIG):
            self.assertIsNone(forth(pairing, place))
            self.assertIsNone(back(pairing, place))
            self.assertEqual(partners(pairing, place), [])
        self.assertEqual(forth((0, BIG, BIG, False), BIG - 1), 2 * BIG - 1)
        self.assertEqual(back((0, BIG, BIG, False), BIG), 0)

    def test_small_ones(self):
        for pairing in small_pairings(8, 8):
            ways = dict(pairs(pairing))
            home = {goal: place for place, goal in pairs(pairing)}
            for place in range(20):
                self.assertEqual(forth(pairing, place), ways.get(place))
                self.assertEqual(back(pairing, place), home.get(place))
                goals = {row[place] for row in (ways, home) if place in row}
                self.assertEqual(partners(pairing, place), sorted(goals))


class ShortTest(unittest.TestCase):
    def test_to_all(self):
        for pairing in small_pairings(6, 6):
            self.assertEqual(short(pairing, 0, pairing[2]), pairing)

    def test_from_the_begin(self):
        self.assertEqual(short((1, 9, 5, False), 0, 2), (1, 9, 2, False))
        self.assertEqual(short((1, 9, 5, True), 0, 2), (1, 12, 2, True))

    def test_to_the_end(self):
        self.assertEqual(short((1, 9, 5, False), 3, 2), (4, 12, 2, False))
        self.assertEqual(short((1, 9, 5, True), 3, 2), (4, 9, 2, True))

    def test_to_one(self):
        self.assertEqual(short((1, 9, 5, False), 1, 1), (2, 10, 1, False))
        self.assertEqual(short((1, 9, 5, True), 1, 1), (2, 12, 1, True))

    def test_the_lesser_begin_is_low(self):
        self.assertEqual(short((0, 1, 5, True), 4, 1), (1, 4, 1, True))
        self.assertEqual(short((0, 0, 5, True), 3, 2), (0, 3, 2, True))
        self.assertEqual(short((0, 0, 5, True), 2, 1), (2, 2, 1, True))

    def test_far_places(self):
        self.assertEqual(short((5, BIG, BIG, True), BIG - 7, 3), (BIG - 2, BIG + 4, 3, True))
        self.assertEqual(short((0, BIG, BIG, False), BIG - 7, 7), (BIG - 7, 2 * BIG - 7, 7, False))

    def test_small_ones(self):
        for pairing in small_pairings(8, 8):
            led = pairs(pairing)
            for skip in range(pairing[2]):
                for many in range(1, pairing[2] - skip + 1):
                    told = short(pairing, skip, many)
                    self.assertIs(is_pairing(told), True)
                    self.assertEqual(told[2:], (many, pairing[3]))
                    self.assertEqual(unordered(pairs(told)), unordered(led[skip:skip + many]))


class BehindTest(unittest.TestCase):
    def test_none_left(self):
        self.assertIsNone(behind((0, 5, 3, False), (8, 20, 4, False)))
        self.assertIsNone(behind((0, 5, 3, True), (1, 20, 4, False)))
        self.assertIsNone(behind((0, 50, 3, False), (1, 20, 4, True)))
        self.assertIsNone(behind((0, 5, 3, True), (0, 5, 3, True)))

    def test_all_left(self):
        self.assertEqual(behind((0, 5, 3, False), (5, 20, 3, False)), (0, 20, 3, False))
        self.assertEqual(behind((0, 5, 3, True), (5, 20, 3, False)), (0, 20, 3, True))
        self.assertEqual(behind((0, 5, 3, False), (5, 20, 3, True)), (0, 20, 3, True))
        self.assertEqual(behind((0, 5, 3, True), (5, 20, 3, True)), (0, 20, 3, False))

    def test_a_part_left(self):
        self.assertEqual(behind((0, 5, 4, False), (7, 20, 5, False)), (2, 20, 2, False))
        self.assertEqual(behind((0, 5, 4, True), (7, 20, 5, False)), (0, 20, 2, True))
        self.assertEqual(behind((0, 5, 4, False), (7, 20, 5, True)), (2, 23, 2, True))
        self.assertEqual(behind((0, 5, 4, True), (7, 20, 5, True)), (0, 23, 2, False))
        self.assertEqual(behind((0, 5, 4, False), (3, 20, 3, False)), (0, 22, 1, False))

    def test_a_part_within(self):
        self.assertEqual(behind((0, 10, 9, False), (12, 30, 2, True)), (2, 30, 2, True))
        self.assertEqual(behind((0, 10, 2, True), (8, 30, 9, False)), (0, 32, 2, True))

    def test_where_it_leads_back(self):
        self.assertEqual(behind((0, 1, 6, True), (1, 2, 1, False)), (2, 5, 1, True))
        self.assertEqual(behind((3, 3, 5, True), (3, 4, 1, False)), (4, 7, 1, True))
        self.assertEqual(behind((0, 0, 4, True), (0, 0, 4, True)), (0, 0, 4, False))

    def test_far_places(self):
        self.assertEqual(behind((0, BIG, BIG, True), (BIG + 3, 5 * BIG, BIG, False)), (0, 5 * BIG, BIG - 3, True))
        self.assertEqual(behind((7, BIG, BIG, False), (2 * BIG - 1, 3 * BIG, 9, True)), (BIG + 6, 3 * BIG + 8, 1, True))

    def test_small_ones(self):
        for one in small_pairings(6, 6):
            for other in small_pairings(6, 6):
                ways = dict(pairs(other))
                led = [(place, ways[goal]) for place, goal in pairs(one) if goal in ways]
                told = behind(one, other)
                if not led:
                    self.assertIsNone(told)
                    continue
                self.assertIs(is_pairing(told), True)
                self.assertEqual(told, pairing_of(led) + (one[3] != other[3],), (one, other))
                self.assertEqual(unordered(pairs(told)), unordered(led))


class IsTurnTest(unittest.TestCase):
    def test_turned_is_none(self):
        for low, high, long in ((0, 0, 3), (0, 1, 3), (0, 3, 3), (0, 4, 3)):
            self.assertIs(is_turn((low, high, long, True)), False)

    def test_one_stretch_is_none(self):
        self.assertIs(is_turn((4, 4, 1, False)), False)
        self.assertIs(is_turn((4, 4, 9, False)), False)

    def test_overlapping(self):
        self.assertIs(is_turn((4, 5, 9, False)), True)
        self.assertIs(is_turn((4, 12, 9, False)), True)

    def test_just_beside_one_another(self):
        self.assertIs(is_turn((4, 13, 9, False)), True)
        self.assertIs(is_turn((0, 1, 1, False)), True)
        self.assertIs(is_turn((5, BIG + 5, BIG, False)), True)

    def test_one_place_apart(self):
        self.assertIs(is_turn((4, 14, 9, False)), False)
        self.assertIs(is_turn((0, 2, 1, False)), False)
        self.assertIs(is_turn((5, BIG + 6, BIG, False)), False)


class WholeTest(unittest.TestCase):
    def test_the_interface_is_there(self):
        for name in ("is_pairing", "paired", "forth", "back", "partners", "short", "behind", "is_turn"):
            self.assertTrue(callable(getattr(pairings, name)))


if __name__ == "__main__":
    unittest.main()
