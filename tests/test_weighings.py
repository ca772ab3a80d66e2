"""Weighings: point 4."""

import unittest

from farcords import weighings
from farcords.weighings import added, backward, is_weighing, length, part, put_to, shaped, sorts, weights_at, wound
from tests.walked import gathered, small_weighings, spread, together

BIG = 10 ** 61
PRIME = 10 ** 60 + 7


class IsWeighingTest(unittest.TestCase):
    def well(self, thing):
        self.assertIs(is_weighing(thing), True, repr(thing)[:200])

    def none(self, thing):
        self.assertIs(is_weighing(thing), False, repr(thing)[:200])

    def test_weighings(self):
        self.well([])
        self.well([(1, (0,))])
        self.well([(3, (1, 2)), (1, (1, 3)), (7, (1, 2))])
        self.well([(1, (0,)), (1, (1,)), (1, (0,))])
        self.well([(1, (-5,)), (2, (-6,))])
        self.well([(10 ** 100, (10 ** 100,)), (10 ** 61, (-10 ** 100,))])

    def test_any_size(self):
        for many in (40, 41, 400, 5000):
            self.well([(at + 1, (at % 2, 7)) for at in range(many)])
            self.none([(at + 1, (at % 2, 7)) for at in range(many)] + [(1, ((many - 1) % 2, 7))])
            self.none([(at + 1, (at % 2, 7)) for at in range(many)] + [(1, (7,))])
            self.none([(at + 1, (at % 2, 7)) for at in range(many)] + [(0, (9, 7))])

    def test_one_to_twenty_four_weights(self):
        for many in range(1, 25):
            self.well([(1, tuple(range(many))), (1, tuple(range(-many, 0)))])
        self.none([(1, ())])
        self.none([(1, tuple(range(25)))])
        self.none([(1, ()), (2, ())])
        self.none([(1, tuple(range(24))), (1, tuple(range(25)))])

    def test_alike_side_by_side(self):
        self.none([(1, (5,)), (1, (5,))])
        self.none([(1, (4,)), (2, (5,)), (3, (5,))])
        self.none([(2, (5, 6)), (3, (5, 6)), (3, (5, 7))])

    def test_weights_of_another_length(self):
        self.none([(1, (5,)), (1, (5, 5))])
        self.none([(1, (5, 6)), (1, (6,))])
        self.none([(1, (5, 6)), (1, (6, 5)), (2, (5, 6, 7))])

    def test_no_list_at_all(self):
        for thing in (None, True, False, 0, 5, -1, "", "ab", (), ((1, (2,)),), (1, (2,)), {}, b""):
            self.none(thing)

    def test_no_tuple_of_a_many_and_weights(self):
        odd = [None, True, False, 0, 5, "", "ab", [], [1, (7, 7)], (), (1,), (1, (7, 7), 1), ((7, 7), 1), ((7, 7),),
               (1, 7, 7)]
        for thing in odd:
            self.none([thing])
            self.none([(1, (2, 3)), thing])
            self.none([thing, (1, (2, 3))])
            self.none([(1, (2, 3)), thing, (1, (2, 3))])

    def test_no_many(self):
        for thing in (None, True, False, 0, -1, -BIG, "", "1", [], [1], (), (1,)):
            self.none([(thing, (2,))])
            self.none([(1, (1,)), (thing, (2,)), (1, (1,))])

    def test_no_weights(self):
        for thing in (None, True, False, 0, 7, "", "7", "77", [], [7], [7, 7], (), ((7, 7),), (7, 7, 7)):
            self.none([(1, (2, 3)), (1, thing)])
            self.none([(1, thing), (1, (2, 3))])
        for thing in (None, True, False, 0, 7, "", "7", [], [7], ()):
            self.none([(1, thing)])

    def test_no_weight(self):
        for thing in (None, True, False, "", "7", [], [7], (), (7,)):
            self.none([(1, (thing,))])
            self.none([(1, (2, thing))])
            self.none([(1, (2, 3)), (1, (thing, 3))])
            self.none([(1, (2, thing, 4)), (1, (2, 3, 4))])

    def test_truths_are_no_noughts_and_ones(self):
        self.none([(1, (0,)), (1, (True,))])
        self.none([(1, (False,)), (1, (1,))])
        self.none([(True, (0,))])


class ShapedTest(unittest.TestCase):
    def test_nothing(self):
        self.assertEqual(shaped([]), [])
        self.assertEqual(shaped([(0, (1,))]), [])
        self.assertEqual(shaped([(0, (1,)), (0, (2,)), (0, (1,))]), [])

    def test_a_weighing_stays(self):
        weighing = [(3, (1, 2)), (BIG, (1, 3)), (7, (1, 2))]
        self.assertEqual(shaped(weighing), weighing)
        self.assertIsNot(shaped(weighing), weighing)

    def test_pieces_of_no_places_are_left_out(self):
        self.assertEqual(shaped([(0, (9,)), (2, (1,)), (0, (9,)), (3, (2,)), (0, (2,))]), [(2, (1,)), (3, (2,))])

    def test_alike_ones_round_a_piece_of_no_places_are_made_one(self):
        self.assertEqual(shaped([(2, (1,)), (0, (9,)), (3, (1,))]), [(5, (1,))])
        self.assertEqual(shaped([(2, (1,)), (0, (1,)), (0, (9,)), (3, (1,)), (4, (2,))]), [(5, (1,)), (4, (2,))])

    def test_alike_ones_side_by_side_are_made_one(self):
        self.assertEqual(shaped([(BIG, (1,)), (BIG, (1,)), (1, (1,)), (1, (2,)), (1, (1,))]),
                         [(2 * BIG + 1, (1,)), (1, (2,)), (1, (1,))])

    def test_all_small_ones(self):
        kinds = [(many, (weight,)) for many in (0, 1, 2) for weight in (0, 1)]
        rows = [[]]
        for time in range(4):
            rows = [row + [kind] for row in rows for kind in kinds]
            for row in rows:
                self.assertEqual(shaped(row), gathered(spread(row)))


class AskedTest(unittest.TestCase):
    def test_length(self):
        self.assertEqual(length([]), 0)
        self.assertEqual(length([(3, (1,))]), 3)
        self.assertEqual(length([(3, (5,)), (BIG, (6,)), (4, (5,))]), BIG + 7)

    def test_length_is_no_truth(self):
        self.assertIsInstance(length([]), int)
        self.assertNotIsInstance(length([]), bool)

    def test_weights_at_first_and_last_places(self):
        weighing = [(3, (1, 0)), (1, (2, 0)), (2, (1, 0))]
        self.assertEqual([weights_at(weighing, place) for place in range(6)], spread(weighing))
        self.assertEqual(weights_at([(1, (5,))], 0), (5,))

    def test_weights_at_far_places(self):
        weighing = [(BIG, (1,)), (1, (2,)), (BIG, (-3,))]
        for place, weights in ((0, (1,)), (BIG - 1, (1,)), (BIG, (2,)), (BIG + 1, (-3,)), (2 * BIG, (-3,))):
            self.assertEqual(weights_at(weighing, place), weights)

    def test_sorts(self):
        self.assertEqual(sorts([]), [])
        self.assertEqual(sorts([(2, (5,)), (BIG, (-1,)), (3, (5,)), (1, (0,)), (4, (-1,))]),
                         [((-1,), BIG + 4), ((0,), 1), ((5,), 5)])

    def test_sorts_go_by_the_weights_not_by_the_manys(self):
        self.assertEqual(sorts([(9, (2, 1)), (1, (10, 0)), (5, (2, 0))]), [((2, 0), 5), ((2, 1), 9), ((10, 0), 1)])

    def test_sorts_of_small_ones(self):
        for weighing in small_weighings(5):
            places = spread(weighing)
            self.assertEqual(sorts(weighing), [(kind, places.count(kind)) for kind in sorted(set(places))])


class PartTest(unittest.TestCase):
    def test_begin_equal_to_end(self):
        weighing = [(2, (1,)), (3, (2,))]
        for place in range(6):
            self.assertEqual(part(weighing, place, place), [])
        self.assertEqual(part([], 0, 0), [])

    def test_within_one_tuple(self):
        self.assertEqual(part([(2, (1,)), (9, (2,)), (2, (1,))], 4, 7), [(3, (2,))])
        self.assertEqual(part([(BIG, (1,))], 5, BIG - 5), [(BIG - 10, (1,))])

    def test_over_several(self):
        weighing = [(BIG, (1,)), (3, (2,)), (BIG, (1,))]
        self.assertEqual(part(weighing, BIG - 1, BIG + 4), [(1, (1,)), (3, (2,)), (1, (1,))])
        self.assertEqual(part(weighing, BIG, BIG + 3), [(3, (2,))])
        self.assertEqual(part(weighing, 0, 2 * BIG + 3), weighing)

    def test_small_ones(self):
        for weighing in small_weighings(5):
            for end in range(6):
                for begin in range(end + 1):
                    told = part(weighing, begin, end)
                    self.assertEqual(told, gathered(spread(weighing)[begin:end]))
                    self.assertIs(is_weighing(told), True)


class BackwardTest(unittest.TestCase):
    def test_backward(self):
        self.assertEqual(backward([]), [])
        self.assertEqual(backward([(2, (1,)), (BIG, (2,)), (3, (1,))]), [(3, (1,)), (BIG, (2,)), (2, (1,))])

    def test_twice_it_is_as_it_was(self):
        for weighing in small_weighings(5):
            self.assertEqual(backward(weighing), gathered(spread(weighing)[::-1]))
            self.assertEqual(backward(backward(weighing)), weighing)


class AddedTest(unittest.TestCase):
    def test_the_empty_ones(self):
        self.assertEqual(added([], []), [])

    def test_tuples_that_end_at_unlike_places(self):
        self.assertEqual(added([(2, (1, 0)), (4, (2, 0))], [(3, (0, 5)), (2, (0, 6)), (1, (0, 5))]),
                         [(2, (1, 5)), (1, (2, 5)), (2, (2, 6)), (1, (2, 5))])

    def test_tuples_that_end_at_like_places(self):
        self.assertEqual(added([(2, (1,)), (4, (2,))], [(2, (10,)), (4, (-20,))]), [(2, (11,)), (4, (-18,))])

    def test_sums_that_come_alike_are_made_one(self):
        self.assertEqual(added([(2, (1,)), (4, (2,))], [(2, (2,)), (4, (1,))]), [(6, (3,))])
        self.assertEqual(added([(BIG, (1,)), (1, (2,))], [(BIG, (-1,)), (1, (-2,))]), [(BIG + 1, (0,))])

    def test_far_places(self):
        self.assertEqual(added([(BIG, (1,)), (7, (2,))], [(7, (BIG,)), (BIG, (0,))]),
                         [(7, (BIG + 1,)), (BIG - 7, (1,)), (7, (2,))])

    def test_small_ones(self):
        for one in small_weighings(4):
            for other in small_weighings(4):
                places = [together(a, b) for a, b in zip(spread(one), spread(other))]
                self.assertEqual(added(one, other), gathered(places))

    def test_many_tuples(self):
        one = [(1 + at % 3, (at % 2,)) for at in range(3000)]
        other = [(1, (at % 7,)) for at in range(length(one))]
        places = [together(a, b) for a, b in zip(spread(one), spread(other))]
        self.assertEqual(added(one, other), gathered(places))


class PutToTest(unittest.TestCase):
    def test_the_empty_one(self):
        weighing = [(2, (1,)), (3, (2,))]
        for begin in range(6):
            self.assertEqual(put_to(weighing, begin, []), weighing)
        self.assertEqual(put_to([], 0, []), [])
        self.assertIsNot(put_to(weighing, 0, []), weighing)

    def test_at_begin_0(self):
        self.assertEqual(put_to([(5, (1,))], 0, [(2, (3,))]), [(2, (4,)), (3, (1,))])

    def test_just_to_the_end(self):
        self.assertEqual(put_to([(5, (1,))], 3, [(2, (3,))]), [(3, (1,)), (2, (4,))])
        self.assertEqual(put_to([(5, (1,))], 4, [(1, (0,))]), [(5, (1,))])

    def test_in_the_midst(self):
        self.assertEqual(put_to([(3, (1,)), (3, (2,))], 2, [(1, (1,)), (2, (5,))]),
                         [(2, (1,)), (1, (2,)), (2, (7,)), (1, (2,))])

    def test_far_places(self):
        self.assertEqual(put_to([(3 * BIG, (1, 1))], BIG, [(BIG, (0, -1))]),
                         [(BIG, (1, 1)), (BIG, (1, 0)), (BIG, (1, 1))])

    def test_small_ones(self):
        for weighing in small_weighings(4):
            for many in range(4):
                for other in small_weighings(many):
                    for begin in range(5 - many):
                        places = spread(weighing)
                        for at, weights in enumerate(spread(other)):
                            places[begin + at] = together(places[begin + at], weights)
                        self.assertEqual(put_to(weighing, begin, other), gathered(places))


class WoundTest(unittest.TestCase):
    def of_place(self, weighing, t, place):
        """The sum reckoned by how many of the places there are in each tuple."""
        total = (0,) * len(weighing[0][1])
        low = 0
        for many, weights in weighing:
            times = (low + many - 1 - place) // t - (low - 1 - place) // t
            total = together(total, tuple(weight * times for weight in weights))
            low += many
        return total

    def test_round_one_place(self):
        self.assertEqual(wound([(5, (1, 2)), (2, (3, -9))], 1), [(1, (11, -8))])
        self.assertEqual(wound([(BIG, (1,)), (BIG, (2,))], 1), [(1, (3 * BIG,))])

    def test_below_the_length(self):
        self.assertEqual(wound([(5, (1,)), (2, (3,))], 3), [(1, (5,)), (1, (2,)), (1, (4,))])
        self.assertEqual(wound([(6, (1,))], 3), [(3, (2,))])

    def test_a_run_that_lies_over_the_end(self):
        self.assertEqual(wound([(3, (0,)), (2, (1,))], 4), [(1, (1,)), (2, (0,)), (1, (1,))])

    def test_equal_to_the_length(self):
        self.assertEqual(wound([(5, (1,)), (2, (3,))], 7), [(5, (1,)), (2, (3,))])

    def test_above_the_length_are_noughts(self):
        self.assertEqual(wound([(5, (1, 2)), (2, (3, 4))], 9), [(5, (1, 2)), (2, (3, 4)), (2, (0, 0))])
        self.assertEqual(wound([(5, (1,)), (2, (0,))], 9), [(5, (1,)), (4, (0,))])
        self.assertEqual(wound([(1, (1,))], BIG), [(1, (1,)), (BIG - 1, (0,))])

    def test_small_ones(self):
        for many in range(1, 7):
            for weighing in small_weighings(many):
                places = spread(weighing)
                for t in range(1, many + 4):
                    sums = [(0, 0)] * t
                    for at, weights in enumerate(places):
                        sums[at % t] = together(sums[at % t], weights)
                    self.assertEqual(wound(weighing, t), gathered(sums))

    def test_far_places(self):
        one = [(BIG, (1, 0)), (PRIME, (0, 1)), (3 * BIG + 1, (-2, 5)), (1, (10 ** 60, 0))]
        for weighing in (one, backward(one), [(BIG, (4,))]):
            whole = length(weighing)
            for t in (2, 97, 10 ** 30 + 57, PRIME, BIG - 1, BIG, whole - 1, whole, whole + 1, 7 * whole):
                told = wound(weighing, t)
                self.assertIs(is_weighing(told), True)
                self.assertEqual(length(told), t)
                low = 0
                for many, weights in told:
                    for place in (low, low + many // 2, low + many - 1):
                        self.assertEqual(weights, self.of_place(weighing, t, place))
                    low += many

    def test_what_it_weighs_stays(self):
        weighing = [(BIG + 3, (1, 7)), (PRIME, (0, -1)), (BIG, (5, 5))]
        for t in (1, 5, 10 ** 40, PRIME, 10 * BIG):
            self.assertEqual(wound(wound(weighing, t), 1), wound(weighing, 1))

    def test_many_tuples(self):
        weighing = [(1 + at % 3, (at % 2,)) for at in range(3000)]
        for t in (1, 7, 1000, 9000):
            sums = [0] * t
            for at, weights in enumerate(spread(weighing)):
                sums[at % t] += weights[0]
            self.assertEqual(wound(weighing, t), gathered([(weight,) for weight in sums]))


class WholeTest(unittest.TestCase):
    def test_the_interface_is_there(self):
        for name in ("is_weighing", "shaped", "length", "weights_at", "part", "backward", "added", "put_to", "wound",
                     "sorts"):
            self.assertTrue(callable(getattr(weighings, name)))

    def test_twenty_four_weights_go_through_all(self):
        weights = tuple(range(-12, 12))
        more = tuple(range(24))
        weighing = [(2, weights), (3, more)]
        self.assertEqual(backward(weighing), [(3, more), (2, weights)])
        self.assertEqual(part(weighing, 1, 3), [(1, weights), (1, more)])
        self.assertEqual(added(weighing, weighing), [(2, together(weights, weights)), (3, together(more, more))])
        self.assertEqual(wound(weighing, 1), [(1, tuple(2 * a + 3 * b for a, b in zip(weights, more)))])
        self.assertEqual(sorts(weighing), [(weights, 2), (more, 3)])


if __name__ == "__main__":
    unittest.main()
